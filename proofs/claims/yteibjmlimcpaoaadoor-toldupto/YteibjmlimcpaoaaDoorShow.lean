/-
  What text.show answers, with text.narrow and with text.wide, for every string of at most 1048576 bytes and every limit: the text and its marks; nothing that lay in memory turns.
-/
import Derived.Test.YteibjmlimcpaoaaDoorFmt
import Derived.Test.YteibjmlimcpaoaaDoorShelf
set_option linter.unusedVariables false
namespace Go.Proofs.YteibjmlimcpaoaaDoor.T
open Go.RowKit

/-- a builder stays one while every old block stands -/
theorem builderAt_on {T e : TypeId} {B b : Nat} {p : Value} {bs : List Value} {w w' : World} (h : Lib.BuilderAtF T e B b p bs w) (hb : Below w.heap.size w w') : Lib.BuilderAtF T e B b p bs w' := by
  have hlt := h.lt
  obtain ⟨hB, v, hbk, hown, hne⟩ := h
  exact ⟨hB, v, (hb.block b hlt).trans hbk, hown.kept (row := none) ⟨hb.os, hb.tape, hb.output, hb.size, fun k hk _ => hb.block k hk⟩ (by cases hv : v.ownBlock <;> simp), hne⟩
theorem builder_on {T e : TypeId} {B b : Nat} {bs : List Value} {w w' : World} (h : Lib.IsBuilderF T e B b bs w) (hb : Below w.heap.size w w') : Lib.IsBuilderF T e B b bs w' :=
  h.elim (fun x => .inl (builderAt_on x hb)) (fun x => .inr (builderAt_on x hb))

theorem builder_lt {T e : TypeId} {B b : Nat} {bs : List Value} {w : World} (h : Lib.IsBuilderF T e B b bs w) : b < w.heap.size := h.elim (fun x => x.lt) (fun x => x.lt)

theorem letters_step (first : List UInt8 → Nat × Nat × Bool) (f : Nat) (l : List UInt8) (h : 0 < l.length) (hf : l.length ≤ f) :
    letters first f l = ((first l).1, (first l).2.2) :: letters first (f - 1) (l.drop (first l).2.1) := by
  cases f with
  | zero => omega
  | succ f =>
    cases l with
    | nil => simp at h
    | cons a l => rfl
theorem letters_nil (first : List UInt8 → Nat × Nat × Bool) (f : Nat) (l : List UInt8) (h : ¬ 0 < l.length) : letters first f l = [] := by
  have : l = [] := List.eq_nil_of_length_eq_zero (by omega)
  subst this
  cases f <;> rfl
theorem tell_cut (limit : Int) (x : Nat) (br1 : Bool) (r : List (Nat × Bool)) (acc sl : List UInt8) (b h : Bool) (hs : shownL x = sl) (hc : limit < (acc.length : Int) + sl.length) : tell limit ((x, br1) :: r) acc b h = (acc, b, h, true) := by
  rw [tell, hs, if_pos hc]
theorem tell_fit (limit : Int) (x : Nat) (br1 : Bool) (r : List (Nat × Bool)) (acc sl : List UInt8) (b h : Bool) (hs : shownL x = sl) (hc : ¬ limit < (acc.length : Int) + sl.length) : tell limit ((x, br1) :: r) acc b h = tell limit r (acc ++ sl) (b || br1) (h || harmB x) := by
  rw [tell, hs, if_neg hc]
theorem mark_or (a b c d : Bool) : bits .or .i64 (markN a b false) (markN c d false) = markN (a || c) (b || d) false := by
  cases a <;> cases b <;> cases c <;> cases d <;> decide
theorem mark_cut (a b : Bool) : bits .or .i64 (markN a b false) 4 = markN a b true := by
  cases a <;> cases b <;> decide
theorem ret_two {a a' : ByteArray} {b b' : Int} (h1 : a = a') (h2 : b = b') : Ending.returned (.tuple #[.string a, .int .i64 b]) = Ending.returned (.tuple #[.string a', .int .i64 b']) := by rw [h1, h2]

def strSize : Value → Nat
  | .string t => t.size
  | _ => 0
theorem ba_size (l : List UInt8) : (ByteArray.mk l.toArray).size = l.length := by
  show l.toArray.size = l.length
  simp

theorem size_extract (s : ByteArray) (k : Nat) : (s.extract k s.size).size = s.size - k := by
  simp [ByteArray.size_extract]

theorem shown_length (n : Nat) : (shownL n).length ≤ 6 := by
  unfold shownL
  split
  · have := hexL_length (n : Int).toNat
    simp only [List.length_cons, List.length_append, List.length_nil]
    omega
  · unfold utf8L
    split
    · simp
    · split
      · simp
      · split <;> simp

/-- the block of the character that was read, whatever came above it -/
def ChAt (k : Nat) (v sz : Int) (br : Bool) (w : World) : Prop := w.heap[k]? = some (.cells #[.int .i32 v, .int .i64 sz, .bool br] 130 (0, 0))

theorem ChAt.cells {k : Nat} {v sz : Int} {br : Bool} {w : World} (h : ChAt k v sz br w) : w.cell? ⟨k, 0, none⟩ = some (.int .i32 v) ∧ w.cell? ⟨k, 1, none⟩ = some (.int .i64 sz) ∧ w.cell? ⟨k, 2, none⟩ = some (.bool br) := by
  refine ⟨?_, ?_, ?_⟩ <;> (rw [Lib.cell_of_heap h]; rfl)
theorem ChAt.on {k : Nat} {v sz : Int} {br : Bool} {w w' : World} (h : ChAt k v sz br w) (hb : Below w.heap.size w w') : ChAt k v sz br w' := by
  have hk : k < w.heap.size := (Array.getElem?_eq_some_iff.1 h).1
  exact (hb.block k hk).trans h
theorem ChAt.others {k b : Nat} {v sz : Int} {br : Bool} {w w' : World} (h : ChAt k v sz br w) (hk : k ≠ b) (hb : Lib.OthersKept 5 (some b) w w') : ChAt k v sz br w' :=
  hb k _ h (fun e => hk (Option.some.inj e)) (fun c fz e => by cases e)
theorem ChAt.new (w : World) (v sz : Int) (br : Bool) : ChAt w.heap.size v sz br (w.alloc (.cells #[.int .i32 v, .int .i64 sz, .bool br] 130)) := by
  unfold ChAt
  have := heap_alloc_new w (.cells #[.int .i32 v, .int .i64 sz, .bool br] 130)
  exact this

theorem firstN_facts (l : List UInt8) (h : 0 < l.length) : okC (firstN l).1 ∧ 1 ≤ (firstN l).2.1 ∧ (firstN l).2.1 ≤ l.length := by
  unfold firstN okC
  split
  · refine ⟨?_, by simp, h⟩
    simp only
    omega
  · refine ⟨by decide, by simp, h⟩

set_option maxRecDepth 100000 in
set_option maxHeartbeats 2000000 in
theorem showN (s : ByteArray) (limit : Int) (w : World) (r : List UInt8 × Bool × Bool × Bool) (hs : s.size ≤ 1048576) (ht : Tab w) (hr : tell limit (letters firstN s.size s.data.toList) [] false false = r) :
    Calls Tryd.prog 51 #[.string s, .int .i64 limit, .func (.func 52) #[] #[]] w fun e w' => e = .returned (.tuple #[.string ⟨r.1.toArray⟩, .int .i64 (markN r.2.1 r.2.2.1 r.2.2.2)]) ∧ Below w.heap.size w w' := by
  have HR := Lib.hid hr
  clear hr
  go_enter Tryd.func51, Tryd.ntmps51
  go_wp2
  go_loopw [0, 9] (fun bs ms wr => ∃ (t : ByteArray) (fuel : Nat) (acc : List UInt8) (br hd : Bool), bs = .string t ∧ ms = .int .i64 (markN br hd false) ∧ Lib.IsBuilderF 128 5 w.heap.size w.heap.size (Lib.byteCells acc) wr ∧ Below w.heap.size w wr ∧ t.size ≤ fuel ∧ t.size ≤ 1048576 ∧ acc.length + 6 * t.size ≤ 6291456 ∧ Hid (tell limit (letters firstN fuel t.data.toList) acc br hd = r)) (fun bs _ _ => strSize bs)
  case atStart =>
    exact ⟨s, s.size, [], false, false, rfl, rfl, Lib.IsBuilderF.of (Lib.fresh_isBuilder 128 5 w), (Below.refl _ w).alloc (Nat.le_refl _) _, Nat.le_refl _, hs, by simp; omega, HR⟩
  case round =>
    obtain ⟨t, fuel, acc, br, hd, rfl, rfl, hI, hbw, hfu, hts, hal, H⟩ := hrel
    by_cases h0 : 0 < t.size
    · obtain ⟨fv, hfv⟩ : ∃ x, firstN t.data.toList = x := ⟨_, rfl⟩
      have ff := firstN_facts t.data.toList (by simpa using h0)
      have C17 := Lib.hid (fun w => narrow17 t w h0)
      rw [hfv] at ff C17
      obtain ⟨v, sz, br1⟩ := fv
      simp only at ff C17
      obtain ⟨fok, f1, f2⟩ := ff
      have htr : Tab wr := ht.below hbw ht.lt
      go_wp2_with (go_at_call 52; refine (C17.out _).mono ?_; rintro e w1 ⟨rfl, hb1⟩; refine Hid.out ?_)
      refine Lib.hid ?_
      have hI2 := (builder_on hI hb1).alloc (.cells #[.int .i32 (v : Int), .int .i64 (sz : Int), .bool br1] 130)
      have ht2 : Tab (w1.alloc (.cells #[.int .i32 (v : Int), .int .i64 (sz : Int), .bool br1] 130)) := tab_alloc (htr.on hb1)
      have hc2 := ChAt.new w1 v sz br1
      have hkw : w.heap.size < w1.heap.size := Nat.lt_of_lt_of_le (builder_lt hI) hb1.size
      have hbw2 := (hbw.trans (hb1.mono hbw.size)).alloc (Nat.le_of_lt hkw) (.cells #[.int .i32 (v : Int), .int .i64 (sz : Int), .bool br1] 130)
      go_wp2_with (go_at_call 73; refine (shown21 v _ fok ht2).mono ?_; rintro e w3 ⟨rfl, hb3⟩; refine Hid.out ?_)
      have hI3 := builder_on hI2 hb3
      have hc3 := hc2.on hb3
      have hbw3 := hbw2.trans (hb3.mono hbw2.size)
      have hl6 := shown_length v
      clear hb3 hc2 hI2 ht2 hbw2 hI hbw
      obtain ⟨k0, k1, k2⟩ := hc3.cells
      obtain ⟨b, hb⟩ : ∃ b, w.heap.size = b := ⟨_, rfl⟩
      obtain ⟨kk, hkk⟩ : ∃ kk, w1.heap.size = kk := ⟨_, rfl⟩
      obtain ⟨sl, hsl⟩ : ∃ sl, shownL (v : Int) = sl := ⟨_, rfl⟩
      rw [hb, hkk] at hkw
      rw [hkk] at hc3 k0 k1 k2
      have hbsz := hbw3.size
      rw [hb] at hI3 hbw3 hbsz
      rw [hsl] at hl6
      refine Lib.hid ?_
      rw [hsl, hb, hkk]
      clear hkk hb1
      have HB := Lib.hid hb
      have HSL := Lib.hid hsl
      have hst := letters_step firstN fuel t.data.toList (by simpa using h0) (by simpa using hfu)
      rw [hfv] at hst
      have h1 := H.out
      rw [hst] at h1
      have H1 := Lib.hid h1
      clear h1 hst H hfv
      have L22 := Lib.hid (bLen b b (Lib.byteCells acc) w3 hI3)
      rw [Lib.byteCells_length] at L22
      by_cases hfit : limit < (acc.length : Int) + sl.length
      · have h2 := H1.out
        rw [tell_cut limit v br1 _ acc sl br hd hsl hfit] at h2
        have H2 := Lib.hid h2
        have hm4 := mark_cut br hd
        clear h2 H1 hb hsl
        go_wp2_with (first | (go_at_call 74; refine L22.out.mono ?_; rintro e w4 ⟨rfl, rfl⟩) | (go_at_call 75; refine (bString b b acc _ hI3 hbsz).mono ?_; rintro e w5 ⟨rfl, hI4, hb4, _⟩))
        go_ret2
        refine ⟨?_, ?_⟩
        · rw [← H2.out]
          rfl
        · rw [HB.out]
          exact hbw3.trans hb4
      · have h2 := H1.out
        rw [tell_fit limit v br1 _ acc sl br hd hsl hfit] at h2
        have H2 := Lib.hid h2
        have hm4 := mark_or br hd br1 (harmB v)
        have M25 := Lib.hid (fun w => marks25 v sz br1 w)
        clear h2 H1 hb hsl
        have W24 := Lib.hid (bWrite b b (Lib.byteCells acc) ⟨sl.toArray⟩ w3 hI3 (by rw [Lib.byteCells_length, ba_size]; omega) hbsz)
        go_wp2_with (first | (go_at_call 74; refine L22.out.mono ?_; rintro e w4 ⟨rfl, rfl⟩) | (go_at_call 76; refine W24.out.mono ?_; rintro e w5 ⟨rfl, hI4, hb4, ho4⟩; refine Hid.out ?_))
        have hc4 := hc3.others (by omega) ho4
        obtain ⟨j0, j1, j2⟩ := hc4.cells
        refine Lib.hid ?_
        go_wp2_with (go_at_call 77; refine (M25.out _).mono ?_; rintro e w6 ⟨rfl, hb6⟩; refine Hid.out ?_)
        obtain ⟨i0, i1, i2⟩ := (hc4.on hb6).cells
        have hI6 := builderAt_on hI4 hb6
        have hbw6 := (hbw3.trans hb4).trans (hb6.mono (Nat.le_trans hbsz hb4.size))
        refine Lib.hid ?_
        clear j0 j1 j2 k0 k1 k2
        go_wp2
        have hb := HB.out
        subst hb
        go_roundw
        case rel =>
          refine ⟨t.extract sz t.size, fuel - 1, acc ++ sl, br || br1, hd || harmB v, rfl, rfl, ?_, hbw6, ?_, ?_, ?_, ?_⟩
          · rw [Lib.byteCells_append]
            refine Or.inr ?_
            exact hI6
          · rw [size_extract]; omega
          · rw [size_extract]; omega
          · rw [size_extract, List.length_append]; omega
          · rw [extract_toList]; exact H2
        case measure =>
          show (t.extract sz t.size).size < t.size
          rw [size_extract]
          omega
    · have h1 := H.out
      rw [letters_nil firstN fuel t.data.toList (by simpa using h0)] at h1
      have H1 := Lib.hid h1
      clear h1 H
      have h0' : ¬ (0 < (t.size : Int)) := by omega
      go_wp2_with (go_at_call 75; refine (bString _ _ acc _ hI hbw.size).mono ?_; rintro e w5 ⟨rfl, hI4, hb4, _⟩)
      go_ret2
      refine ⟨?_, hbw.trans hb4⟩
      rw [← H1.out]
      rfl
end Go.Proofs.YteibjmlimcpaoaaDoor.T
