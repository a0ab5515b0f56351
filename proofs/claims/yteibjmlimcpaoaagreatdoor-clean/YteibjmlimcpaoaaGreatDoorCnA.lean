/-
  The law Clean answers true, and leaves alone what lay in memory.
-/
import Derived.Test.YteibjmlimcpaoaaGreatDoorKa
import Derived.Test.YteibjmlimcpaoaaGreatDoorWf
import Derived.Test.YteibjmlimcpaoaaGreatDoorDa
import Derived.Test.YteibjmlimcpaoaaGreatDoorClA
import Derived.Test.YteibjmlimcpaoaaGreatDoorTb
set_option linter.unusedVariables false
set_option linter.unusedSimpArgs false
namespace Go.Proofs.YteibjmlimcpaoaaGreatDoor.W
open Go.RowKit Go.Sort

def KnownC : Prop := ∀ x : World, Gl x → x.cell? ⟨7, 15, none⟩ = some (.int .u8 4) → Calls Tryz.prog 25 #[] x fun e w' => e = .returned (.bool true) ∧ Below x.heap.size x w'
theorem wrap_topC (x : Int) : wrap64 x ≤ 9223372036854775807 := by
  unfold wrap64
  omega
theorem wrapC {x : Int} (h0 : -9223372036854775808 ≤ x) (h1 : x < 9223372036854775808) : IntKind.i64.wrap x = x := by
  rw [IntKind.wrap_i64]
  omega
theorem flat_len {α : Type} (f : α → List UInt8) (k : Nat) : ∀ l : List α, (∀ x ∈ l, (f x).length ≤ k) → (l.flatMap f).length ≤ l.length * k
  | [], _ => by simp
  | x :: l, h => by
    have h1 := h x (List.mem_cons_self ..)
    have h2 := flat_len f k l (fun y hy => h y (List.mem_cons_of_mem _ hy))
    rw [List.flatMap_cons, List.length_append, List.length_cons, Nat.succ_mul]
    omega
theorem enc_len (r : Rep) (h1 : r.lt.length ≤ 16) (h2 : r.ln.length ≤ 20) (hx : ∀ x ∈ r.ln, x.tx.size ≤ 60) (ht : ∀ t ∈ r.lt, t.tag.size = 4) : r.bytes.length ≤ 5000 := by
  have f1 := flat_len tabL 7 r.lt (fun t h => by
    have := ht t h
    have e : t.tag.data.toList.length = t.tag.size := by simp
    simp only [tabL, List.length_append, oneL, twoL, List.length_cons, List.length_nil]
    omega)
  have f2 := flat_len nmL 71 r.ln (fun t h => by
    have := hx t h
    have e : t.tx.data.toList.length = t.tx.size := by simp
    simp only [nmL, List.length_append, oneL, twoL, List.length_cons, List.length_nil]
    omega)
  unfold Rep.bytes
  simp only [List.length_append, oneL, twoL, fourL, List.length_cons, List.length_nil]
  omega
theorem val_bool {a b : Bool} (h : a = b) : Value.bool a = Value.bool b := by rw [h]
theorem mem_take_succ {α : Type} (l : List α) (k : Nat) (x y : α) (h : l[k]? = some y) : x ∈ l.take (k + 1) ↔ (x ∈ l.take k ∨ y = x) := by
  rw [List.take_add_one, h]
  simp only [Option.toList_some, List.mem_append, List.mem_singleton]
  constructor
  · rintro (h | h)
    · exact .inl h
    · exact .inr h.symm
  · rintro (h | h)
    · exact .inl h
    · exact .inr h.symm

set_option maxRecDepth 100000 in
set_option maxHeartbeats 2000000 in
/-- a policy or a file that is refused -/
theorem clean_bad (P : Pol) (T I : Value) (D : List UInt8) (w : World) (hD : D.length ≤ 9223372036854775807) (hp : PolIs P T I w) (hg : Gl w) (htab : w.cell? ⟨7, 15, none⟩ = some (.int .u8 4)) (hK : KnownC) (er : Int) (he : er = 2 ∨ er = 3) (hr : ∀ bb, inspOf P D bb = (Rep.none, (0, 0), er)) :
    Calls Tryz.prog 6 #[pv T I P.text, strV D] w fun e w' => e = .returned (.bool true) ∧ Below w.heap.size w w' := by
  have hs1 := hp.tags
  have hs2 := hp.ids
  obtain ⟨ta, tc, hTe, _⟩ := hs1
  obtain ⟨ia, ic, hIe, _⟩ := hs2
  subst hTe hIe
  obtain ⟨W0, hW0⟩ : ∃ W, w.alloc (.cells #[.slice ta P.tags.length tc, .slice ia P.ids.length ic, .int .i64 P.text] 25) = W := ⟨_, rfl⟩
  have bW0 : Below w.heap.size w W0 := by rw [← hW0]; exact below_alloc _ _
  have p0 : W0.heap[w.heap.size]? = some (.cells #[.slice ta P.tags.length tc, .slice ia P.ids.length ic, .int .i64 P.text] 25 (0, 0)) := by rw [← hW0]; exact new_at _ _
  have HG := Lib.hid (fun (x : World) (h : Below w.heap.size w x) => hg.on h)
  have HB := Lib.hid (fun (x : World) (h : Below w.heap.size w x) => (h.cell (p := ⟨7, 15, none⟩) (cell_lt htab)).trans htab)
  have CK := Lib.hid (hK W0 (HG.out _ bW0) (HB.out _ bW0))
  have CI := Lib.hid (fun (bb : Int) (hbb : bb ≤ 9223372036854775807) (x : World) (h : Below w.heap.size w x) (r : Rep) (st rd : Nat) (er : Int) (hr : inspOf P D bb = (r, (st, rd), er)) => inspectW P (.slice ta P.tags.length tc) (.slice ia P.ids.length ic) D bb x hD hbb (hp.on h) (HG.out x h) (HB.out x h) r st rd er hr)
  unfold pv strV at CI ⊢
  unfold Rep.val at CI
  have CJ := Lib.hid (fun (bb : Int) (hbb : bb ≤ 9223372036854775807) (x : World) (h : Below w.heap.size w x) => CI.out bb hbb x h _ _ _ _ (hr bb))
  simp only [Rep.none, List.length_nil] at CJ
  clear CI hr hg htab hK hp
  go_enter Tryz.func6, Tryz.ntmps6
  go_wp2_with (go_at_call 25; refine CK.out.mono ?_; rintro e w1 ⟨rfl, hb1⟩; refine Hid.out ?_)
  have b1 := bW0.trans (hb1.mono bW0.size)
  have p1 := at_below p0 hb1
  have y0 := cellsAt p1 0
  have y1 := cellsAt p1 1
  have y2 := cellsAt p1 2
  simp only [List.getElem?_toArray, List.getElem?_cons_zero, List.getElem?_cons_succ] at y0 y1 y2
  have hwr := wrap_topC
  clear CK hW0
  refine Lib.hid ?_
  go_wp2_with (go_at_call 12; refine (CJ.out _ (by first | exact hwr _ | omega) w1 b1).mono ?_; rintro e w2 ⟨VA, VB, rfl, oA, oB, hb2⟩; refine Hid.out ?_)
  obtain ⟨a1, a2, hVA⟩ := own_slice oA
  subst hVA
  obtain ⟨a3, a4, hVB⟩ := own_slice oB
  subst hVB
  have b2 := b1.trans (hb2.mono b1.size)
  have b3 : Below w.heap.size w ((w2.alloc (.cells #[.int .i64 0, .slice a1 0 a2, .int .i64 0, .int .i64 0, .int .i64 0, .int .i64 0, .int .i64 0, .int .i64 0, .int .i64 0, .slice a3 0 a4, .int .i64 0, .int .i64 0, .int .i64 0] 39)).alloc (.cells #[.int .i64 0, .int .i64 0] 41)) := (b2.alloc b2.size _).alloc (by have := b2.size; simp; omega) _
  clear y0 y1 y2 CJ hwr oA oB
  refine Lib.hid ?_
  rcases he with rfl | rfl
  all_goals (
    go_wp2
    go_ret
    exact ⟨rfl, b3⟩)

set_option maxRecDepth 100000 in
set_option maxHeartbeats 4000000 in
theorem clean_ok (P : Pol) (T I : Value) (D : List UInt8) (w : World) (hD : D.length ≤ 9223372036854775807) (hD2 : (D.length : Int) ≤ 2000) (hp : PolIs P T I w) (hg : Gl w) (htab : w.cell? ⟨7, 15, none⟩ = some (.int .u8 4)) (hu : Utabs w) (hK : KnownC) (ht1 : 1 ≤ P.text ∧ P.text ≤ 60) (ht8 : P.tags.length ≤ 8) (hi8 : P.ids.length ≤ 8) (r : Rep) (S Q : Nat) (hok : RepOk P D r) (hri : r.right = true)
    (h1 : inspOf P D (64 * (D.length : Int) + 4096) = (r, (S, Q), 0)) :
    Calls Tryz.prog 6 #[pv T I P.text, strV D] w fun e w' => e = .returned (.bool true) ∧ Below w.heap.size w w' := by
  have hs1 := hp.tags
  have hs2 := hp.ids
  obtain ⟨ta, tc, hTe, _⟩ := hs1
  obtain ⟨ia, ic, hIe, _⟩ := hs2
  subst hTe hIe
  obtain ⟨W0, hW0⟩ : ∃ W, w.alloc (.cells #[.slice ta P.tags.length tc, .slice ia P.ids.length ic, .int .i64 P.text] 25) = W := ⟨_, rfl⟩
  have bW0 : Below w.heap.size w W0 := by rw [← hW0]; exact below_alloc _ _
  have p0 : W0.heap[w.heap.size]? = some (.cells #[.slice ta P.tags.length tc, .slice ia P.ids.length ic, .int .i64 P.text] 25 (0, 0)) := by rw [← hW0]; exact new_at _ _
  have HG := Lib.hid (fun (x : World) (h : Below w.heap.size w x) => hg.on h)
  have HB := Lib.hid (fun (x : World) (h : Below w.heap.size w x) => (h.cell (p := ⟨7, 15, none⟩) (cell_lt htab)).trans htab)
  have CK := Lib.hid (hK W0 (HG.out _ bW0) (HB.out _ bW0))
  have CI := Lib.hid (fun (bb : Int) (hbb : bb ≤ 9223372036854775807) (x : World) (h : Below w.heap.size w x) (r : Rep) (st rd : Nat) (er : Int) (hr : inspOf P D bb = (r, (st, rd), er)) => inspectW P (.slice ta P.tags.length tc) (.slice ia P.ids.length ic) D bb x hD hbb (hp.on h) (HG.out x h) (HB.out x h) r st rd er hr)
  unfold pv strV at CI ⊢
  unfold Rep.val at CI
  have C1 := Lib.hid (fun (x : World) (h : Below w.heap.size w x) => CI.out _ (by omega) x h _ _ _ _ h1)
  have HU := Lib.hid (fun (x : World) (h : Below w.heap.size w x) => hu.below h)
  have HP := Lib.hid hp
  have HN := Lib.hid hok.names
  have HTb := Lib.hid hok.tabs
  have he := enc_right hri
  unfold Rep.enc at he
  have hd : decOf r.bytes = some r := decOf_some.2 ⟨hri, rfl⟩
  have ln1 := hok.nt
  have ln2 := hok.nn
  have htx : ∀ x ∈ r.ln, x.tx.size ≤ 9223372036854775807 := by
    intro x hx
    have h := (nm_tx (hok.names x hx) (by omega)).1.len
    have e : x.tx.data.toList.length = x.tx.size := by simp
    omega
  have hbl : r.bytes.length ≤ 9223372036854775807 := by
    have h1 := enc_len r (by omega) (by omega) (fun x hx => by
      have h := (nm_tx (hok.names x hx) (by omega)).1.len
      have e : x.tx.data.toList.length = x.tx.size := by simp
      omega) (fun t ht => (hok.tabs t ht).tag)
    omega
  have CD := Lib.hid (fun (x : World) (h : Below w.heap.size w x) => dec15 r.bytes x hbl (HU.out x h))
  unfold DecIs at CD
  rw [hd] at CD
  simp only at CD
  unfold Rep.val at CD
  generalize r.bytes = bs at *
  have wl1 : IntKind.i64.wrap (64 * (D.length : Int)) = 64 * (D.length : Int) := wrapC (by omega) (by omega)
  have wl2 : IntKind.i64.wrap (64 * (D.length : Int) + 4096) = 64 * (D.length : Int) + 4096 := wrapC (by omega) (by omega)
  clear CI h1 hg htab hK hp hu hok hri hd hbl
  go_enter Tryz.func6, Tryz.ntmps6
  go_wp2_with (go_at_call 25; refine CK.out.mono ?_; rintro e w1 ⟨rfl, hb1⟩; refine Hid.out ?_)
  have b1 := bW0.trans (hb1.mono bW0.size)
  have p1 := at_below p0 hb1
  have y0 := cellsAt p1 0
  have y1 := cellsAt p1 1
  have y2 := cellsAt p1 2
  simp only [List.getElem?_toArray, List.getElem?_cons_zero, List.getElem?_cons_succ] at y0 y1 y2
  have A1 := Lib.hid (C1.out w1 b1)
  clear CK hW0 C1
  refine Lib.hid ?_
  go_wp2_with (go_at_call 12; refine A1.out.mono ?_; rintro e w2 ⟨VA, VB, rfl, oA, oB, hb2⟩; refine Hid.out ?_)
  obtain ⟨a1, a2, hVA⟩ := own_slice oA
  subst hVA
  obtain ⟨a3, a4, hVB⟩ := own_slice oB
  subst hVB
  have b2 := b1.trans (hb2.mono b1.size)
  obtain ⟨W2, hW2⟩ : ∃ W, (w2.alloc (.cells #[.int .i64 r.kind, .slice a1 r.lt.length a2, .int .i64 r.hs, .int .i64 r.hf, .int .i64 r.hu, .int .i64 r.rs, .int .i64 r.rv, .int .i64 r.rb, .int .i64 r.nm, .slice a3 r.ln.length a4, .int .i64 r.cs, .int .i64 r.cf, .int .i64 r.cc] 39)).alloc (.cells #[.int .i64 (S : Int), .int .i64 (Q : Int)] 41) = W := ⟨_, rfl⟩
  have g2 : Below w2.heap.size w2 W2 := by rw [← hW2]; exact (below_alloc _ _).alloc (by simp) _
  have r2 : W2.heap[w2.heap.size]? = some (.cells #[.int .i64 r.kind, .slice a1 r.lt.length a2, .int .i64 r.hs, .int .i64 r.hf, .int .i64 r.hu, .int .i64 r.rs, .int .i64 r.rv, .int .i64 r.rb, .int .i64 r.nm, .slice a3 r.ln.length a4, .int .i64 r.cs, .int .i64 r.cf, .int .i64 r.cc] 39 (0, 0)) := by rw [← hW2]; exact at_alloc (new_at _ _)
  have bW2 := b2.trans (g2.mono b2.size)
  have p2 := at_below (at_below p1 hb2) g2
  have oA2 := own_any oA g2
  have oB2 := own_any oB g2
  clear y0 y1 y2 A1 oA oB p1 p0 hb1 hb2 g2
  have x0 := cellsAt r2 0
  have x1 := cellsAt r2 1
  have x2 := cellsAt r2 2
  have x3 := cellsAt r2 3
  have x4 := cellsAt r2 4
  have x5 := cellsAt r2 5
  have x6 := cellsAt r2 6
  have x7 := cellsAt r2 7
  have x8 := cellsAt r2 8
  have x9 := cellsAt r2 9
  have x10 := cellsAt r2 10
  have x11 := cellsAt r2 11
  have x12 := cellsAt r2 12
  simp only [List.getElem?_toArray, List.getElem?_cons_zero, List.getElem?_cons_succ] at x0 x1 x2 x3 x4 x5 x6 x7 x8 x9 x10 x11 x12
  have A1 := Lib.hid (enc11 r.kind r.hs r.hf r.hu r.rs r.rv r.rb r.nm r.cs r.cf r.cc (.slice a1 r.lt.length a2) (.slice a3 r.ln.length a4) r.lt r.ln W2 (by omega) (by omega) htx (rowOfOwn oA2) (rowOfOwn oB2) (HU.out W2 bW2) _ he)
  have HH := Lib.hid (And.intro r2 (And.intro p2 (And.intro oA2 oB2)))
  clear r2 p2 oA2 oB2 htx
  refine Lib.hid ?_
  go_wp2_with (go_at_call 27; refine A1.out.mono ?_; rintro e w3 ⟨rfl, hb3⟩; refine Hid.out ?_)
  obtain ⟨r2, p2, oA2, oB2⟩ := HH.out
  have b3 := bW2.trans (hb3.mono bW2.size)
  have r3 := at_below r2 hb3
  have p3 := at_below p2 hb3
  have oA3 := own_any oA2 hb3
  have oB3 := own_any oB2 hb3
  clear HH r2 p2 oA2 oB2 A1 hW2 hb3 x0 x1 x2 x3 x4 x5 x6 x7 x8 x9 x10 x11 x12
  have A1 := Lib.hid (CD.out w3 b3)
  have HH := Lib.hid (And.intro r3 (And.intro p3 (And.intro oA3 oB3)))
  clear r3 p3 oA3 oB3 CD
  refine Lib.hid ?_
  go_wp2_with (go_at_call 26; refine A1.out.mono ?_; rintro e w4 ⟨v, rfl, ⟨T', N', rfl, oC, oD, _⟩, hb4⟩; obtain ⟨d1, d2, rfl⟩ := own_slice oC; obtain ⟨d3, d4, rfl⟩ := own_slice oD; refine Hid.out ?_)
  obtain ⟨r3, p3, oA3, oB3⟩ := HH.out
  have b4 := b3.trans (hb4.mono b3.size)
  obtain ⟨W4, hW4⟩ : ∃ W, w4.alloc (.cells #[.int .i64 r.kind, .slice d1 r.lt.length d2, .int .i64 r.hs, .int .i64 r.hf, .int .i64 r.hu, .int .i64 r.rs, .int .i64 r.rv, .int .i64 r.rb, .int .i64 r.nm, .slice d3 r.ln.length d4, .int .i64 r.cs, .int .i64 r.cf, .int .i64 r.cc] 39) = W := ⟨_, rfl⟩
  have g4 : Below w4.heap.size w4 W4 := by rw [← hW4]; exact below_alloc _ _
  have t4 : W4.heap[w4.heap.size]? = some (.cells #[.int .i64 r.kind, .slice d1 r.lt.length d2, .int .i64 r.hs, .int .i64 r.hf, .int .i64 r.hu, .int .i64 r.rs, .int .i64 r.rv, .int .i64 r.rb, .int .i64 r.nm, .slice d3 r.ln.length d4, .int .i64 r.cs, .int .i64 r.cf, .int .i64 r.cc] 39 (0, 0)) := by rw [← hW4]; exact new_at _ _
  have bW4 := b4.trans (g4.mono b4.size)
  have r4 := at_below (at_below r3 hb4) g4
  have p4 := at_below (at_below p3 hb4) g4
  have oA4 := own_any (own_any oA3 hb4) g4
  have oB4 := own_any (own_any oB3 hb4) g4
  have oC4 := own_any oC g4
  have oD4 := own_any oD g4
  clear HH r3 p3 oA3 oB3 oC oD A1 hb4 g4
  have x0 := cellsAt r4 0
  have x1 := cellsAt r4 1
  have x2 := cellsAt r4 2
  have x3 := cellsAt r4 3
  have x4 := cellsAt r4 4
  have x5 := cellsAt r4 5
  have x6 := cellsAt r4 6
  have x7 := cellsAt r4 7
  have x8 := cellsAt r4 8
  have x9 := cellsAt r4 9
  have x10 := cellsAt r4 10
  have x11 := cellsAt r4 11
  have x12 := cellsAt r4 12
  simp only [List.getElem?_toArray, List.getElem?_cons_zero, List.getElem?_cons_succ] at x0 x1 x2 x3 x4 x5 x6 x7 x8 x9 x10 x11 x12
  have v0 := cellsAt t4 0
  have v1 := cellsAt t4 1
  have v2 := cellsAt t4 2
  have v3 := cellsAt t4 3
  have v4 := cellsAt t4 4
  have v5 := cellsAt t4 5
  have v6 := cellsAt t4 6
  have v7 := cellsAt t4 7
  have v8 := cellsAt t4 8
  have v9 := cellsAt t4 9
  have v10 := cellsAt t4 10
  have v11 := cellsAt t4 11
  have v12 := cellsAt t4 12
  simp only [List.getElem?_toArray, List.getElem?_cons_zero, List.getElem?_cons_succ] at v0 v1 v2 v3 v4 v5 v6 v7 v8 v9 v10 v11 v12
  have A1 := Lib.hid (K.sameK r.kind r.hs r.hf r.hu r.rs r.rv r.rb r.nm r.cs r.cf r.cc (.slice a1 r.lt.length a2) (.slice a3 r.ln.length a4) (.slice d1 r.lt.length d2) (.slice d3 r.ln.length d4) r.lt r.ln W4 (by omega) (by omega) (rowOfOwn oA4) (rowOfOwn oB4) (rowOfOwn oC4) (rowOfOwn oD4))
  have HH := Lib.hid (And.intro r4 (And.intro p4 (And.intro oA4 oB4)))
  clear r4 t4 p4 oA4 oB4 oC4 oD4
  refine Lib.hid ?_
  go_wp2_with (go_at_call 28; refine A1.out.mono ?_; rintro e w5 ⟨rfl, hb5⟩; refine Hid.out ?_)
  obtain ⟨r4, p4, oA4, oB4⟩ := HH.out
  have b5 := bW4.trans (hb5.mono bW4.size)
  have RR := Lib.hid (at_below r4 hb5)
  have PP := Lib.hid (at_below p4 hb5)
  have TT := Lib.hid (rowOfOwn (own_any oA4 hb5))
  have NN := Lib.hid (rowOfOwn (own_any oB4 hb5))
  have TG := Lib.hid (HP.out.tags.on b5)
  have IG := Lib.hid (HP.out.ids.on b5)
  clear HH r4 p4 oA4 oB4 A1 hW4 hb5 HP HU HG HB x0 x1 x2 x3 x4 x5 x6 x7 x8 x9 x10 x11 x12 v0 v1 v2 v3 v4 v5 v6 v7 v8 v9 v10 v11 v12
  refine Lib.hid ?_
  go_wp2
  go_loopw [14] (fun is wr => ∃ (k : Nat), is = .int .i64 (k : Int) ∧ k ≤ r.ln.length ∧ Below w5.heap.size w5 wr) (fun is _ => r.ln.length - (intOf is).toNat)
  case atStart => exact ⟨0, rfl, Nat.zero_le _, Below.refl _ _⟩
  case round =>
    obtain ⟨k, rfl, hk, hbw⟩ := hrel
    have z9 := cellsAt (at_below RR.out hbw) 9
    simp only [List.getElem?_toArray, List.getElem?_cons_zero, List.getElem?_cons_succ] at z9
    by_cases hk1 : k < r.ln.length
    · obtain ⟨_, _, hao, ha⟩ := NN.out.on hbw
      cases hao
      obtain ⟨g, o, rfl, hca⟩ := ha (by omega)
      obtain ⟨⟨pl, en, la, id, st, ms, tx⟩, hx⟩ : ∃ x, r.ln[k]? = some x := ⟨_, List.getElem?_eq_getElem hk1⟩
      have hb := HN.out _ (List.mem_of_getElem? hx)
      obtain ⟨⟨hx1, ps, hps, htb⟩, _, _⟩ := nm_tx hb (by omega)
      obtain ⟨t0, t1, t2, t3, t4, t5, t6⟩ := ncells_at r.ln k _ hx
      have c0 := hca _ _ t0
      have c1 := hca _ _ t1
      have c2 := hca _ _ t2
      have c3 := hca _ _ t3
      have c4 := hca _ _ t4
      have c5 := hca _ _ t5
      have c6 := hca _ _ t6
      simp only at c0 c1 c2 c3 c4 c5 c6 hx1 htb
      rw [← Nat.add_assoc] at c1 c2 c3 c4 c5 c6
      have hsz : tx.size ≤ 60 := by
        have e : tx.data.toList.length = tx.size := by simp
        omega
      have hle : ((tx.size : Nat) : Int) ≤ P.text := by
        have e : tx.data.toList.length = tx.size := by simp
        omega
      obtain ⟨W6, hW6⟩ : ∃ W, wr.alloc (.cells #[.int .i64 pl, .int .i64 en, .int .i64 la, .int .i64 id, .int .i64 st, .int .i64 ms, .string tx] 72) = W := ⟨_, rfl⟩
      have g6 : Below wr.heap.size wr W6 := by rw [← hW6]; exact below_alloc _ _
      have n6 : W6.heap[wr.heap.size]? = some (.cells #[.int .i64 pl, .int .i64 en, .int .i64 la, .int .i64 id, .int .i64 st, .int .i64 ms, .string tx] 72 (0, 0)) := by rw [← hW6]; exact new_at _ _
      have b6 := hbw.trans (g6.mono hbw.size)
      have CC := Lib.hid (T.clean8 tx W6 ps (by omega) hps htb)
      have N6 := Lib.hid n6
      have e6 := cellsAt n6 6
      simp only [List.getElem?_toArray, List.getElem?_cons_zero, List.getElem?_cons_succ] at e6
      have HX := Lib.hid hb
      have ik0 : (0 : Int) ≤ (k : Int) := by omega
      have ik1 : (k : Int) < (r.ln.length : Int) := by omega
      clear ha hca t0 t1 t2 t3 t4 t5 t6 hx hb hx1 hps htb n6
      go_wp2_with (go_at_call 29; refine CC.out.mono ?_; rintro e w7 ⟨rfl, hw7⟩; have hw7 := hw7.symm; subst hw7; refine Hid.out ?_)
      clear CC c0 c1 c2 c3 c4 c5 c6 z9 e6 ik0 ik1 hW6
      refine Lib.hid ?_
      go_wp2
      go_loopw [17, 18] (fun hs js wx => ∃ (j : Nat) (q : Bool), js = .int .i64 (j : Int) ∧ j ≤ P.ids.length ∧ hs = .bool q ∧ (q = true ↔ id ∈ P.ids.take j) ∧ Below W6.heap.size W6 wx) (fun _ js _ => P.ids.length - (intOf js).toNat)
      case atStart => exact ⟨0, false, rfl, Nat.zero_le _, rfl, by simp, Below.refl _ _⟩
      case round =>
        obtain ⟨j, q, rfl, hj, rfl, hq, hbx⟩ := hrel
        have bx := b6.trans (hbx.mono b6.size)
        have u1 := cellsAt (at_below PP.out bx) 1
        simp only [List.getElem?_toArray, List.getElem?_cons_zero, List.getElem?_cons_succ] at u1
        by_cases hj1 : j < P.ids.length
        · obtain ⟨_, _, hao, ha⟩ := IG.out.on bx
          cases hao
          obtain ⟨g2, o2, rfl, hca⟩ := ha (by omega)
          obtain ⟨y, hy⟩ : ∃ y, P.ids[j]? = some y := ⟨_, List.getElem?_eq_getElem hj1⟩
          have c0 := hca j (.int .i64 y) (by unfold icells; rw [List.getElem?_map, hy]; rfl)
          have v3 := cellsAt (at_below N6.out hbx) 3
          simp only [List.getElem?_toArray, List.getElem?_cons_zero, List.getElem?_cons_succ] at v3
          have HM := Lib.hid (mem_take_succ P.ids j id y hy)
          have HQ := Lib.hid hq
          have ik0 : (0 : Int) ≤ (j : Int) := by omega
          have ik1 : (j : Int) < (P.ids.length : Int) := by omega
          clear ha hca hy hq
          cases q with
          | true =>
            go_wp2
            go_quiet (fail)
            go_wp2
            exact ⟨⟨j + 1, true, by go_num, by omega, rfl, by rw [HM.out, ← HQ.out]; exact ⟨fun _ => .inl (by first | rfl | trivial), fun _ => (by first | rfl | trivial)⟩, K.below_drewN' hbx nq⟩, by simp [intOf]; omega⟩
          | false =>
            by_cases hyi : y = id
            · subst hyi
              go_wp2
              go_quiet (fail)
              go_wp2
              exact ⟨⟨j + 1, true, by go_num, by omega, (by first | rfl | simp), by rw [HM.out]; exact ⟨fun _ => .inr (by first | rfl | trivial), fun _ => (by first | rfl | trivial)⟩, K.below_drewN' hbx nq⟩, by simp [intOf]; omega⟩
            · have hb1 : (y == id) = false := by simp [hyi]
              go_wp2
              go_quiet (fail)
              go_wp2
              exact ⟨⟨j + 1, false, by go_num, by omega, (by first | rfl | simp [hyi]), by rw [HM.out, ← HQ.out]; exact ⟨fun h => absurd h (by decide), fun h => h.elim (fun h => absurd h (by decide)) (fun h => absurd h hyi)⟩, K.below_drewN' hbx nq⟩, by simp [intOf]; omega⟩
        · have hge : ¬ ((j : Int) < (P.ids.length : Int)) := by omega
          obtain rfl : j = P.ids.length := by omega
          rw [List.take_length] at hq
          have hb := HX.out
          have u2 := cellsAt (at_below PP.out bx) 2
          have v4 := cellsAt (at_below N6.out hbx) 4
          have v5 := cellsAt (at_below N6.out hbx) 5
          have v6 := cellsAt (at_below N6.out hbx) 6
          simp only [List.getElem?_toArray, List.getElem?_cons_zero, List.getElem?_cons_succ] at u2 v4 v5 v6
          have f1 : ¬ (P.text < ((tx.size : Nat) : Int)) := by omega
          have hh := hb.held
          have ht := hb.text
          simp only at hh ht
          clear hb
          have hfin : (q = true ∧ st = 4) ∨ (q = false ∧ ¬ st = 4) := by
            by_cases h4 : st = 4
            · exact .inl ⟨hq.2 (hh.1 h4), h4⟩
            · exact .inr ⟨by cases q with | true => exact absurd (hh.2 (hq.1 rfl)) h4 | false => rfl, h4⟩
          clear hq hh
          rcases ht with ⟨rfl, rfl⟩ | ⟨rfl, _⟩
          · rcases hfin with ⟨rfl, rfl⟩ | ⟨rfl, h4⟩
            · go_wp2
              exact ⟨⟨k + 1, by go_num, by omega, bx⟩, by simp [intOf]; omega⟩
            · have hb1 : (st == 4) = false := by simp [h4]
              by_cases h0 : st = 0
              · subst h0
                go_wp2
                exact ⟨⟨k + 1, by go_num, by omega, bx⟩, by simp [intOf]; omega⟩
              · have hb2 : (st != 0) = true := by simp [h0]
                go_wp2
                exact ⟨⟨k + 1, by go_num, by omega, bx⟩, by simp [intOf]; omega⟩
          · rcases hfin with ⟨rfl, h4⟩ | ⟨rfl, h4⟩
            · omega
            · go_wp2
              exact ⟨⟨k + 1, by go_num, by omega, bx⟩, by simp [intOf]; omega⟩
    · have hge : ¬ ((k : Int) < (r.ln.length : Int)) := by omega
      go_wp2
      go_loopw [19] (fun is wr => ∃ (k : Nat), is = .int .i64 (k : Int) ∧ k ≤ r.lt.length ∧ Below w5.heap.size w5 wr) (fun is _ => r.lt.length - (intOf is).toNat)
      case atStart => exact ⟨0, rfl, Nat.zero_le _, hbw⟩
      case round =>
        clear z9 hge hk1 hbw hk
        obtain ⟨k2, rfl, hk, hbw⟩ := hrel
        have z1 := cellsAt (at_below RR.out hbw) 1
        simp only [List.getElem?_toArray, List.getElem?_cons_zero, List.getElem?_cons_succ] at z1
        by_cases hk1 : k2 < r.lt.length
        · obtain ⟨_, _, hao, ha⟩ := TT.out
          cases hao
          obtain ⟨g, o, rfl, hca⟩ := ha (by omega)
          obtain ⟨⟨tag, st, sz⟩, hx⟩ : ∃ x, r.lt[k2]? = some x := ⟨_, List.getElem?_eq_getElem hk1⟩
          have hb := HTb.out _ (List.mem_of_getElem? hx)
          obtain ⟨t0, t1, t2⟩ := tcells_at r.lt k2 _ hx
          have c0' := hca _ _ t0
          have c1' := hca _ _ t1
          simp only at c0' c1'
          rw [← Nat.add_assoc] at c1'
          have HC := Lib.hid (And.intro c0' c1')
          have HX := Lib.hid hb
          clear ha hca t0 t1 t2 hx hb c0' c1'
          go_wp2
          go_loopw [20, 21] (fun hs js wx => ∃ (j : Nat) (q : Bool), js = .int .i64 (j : Int) ∧ j ≤ P.tags.length ∧ hs = .bool q ∧ (q = true ↔ tag.data.toList ∈ P.tags.take j) ∧ Below w5.heap.size w5 wx) (fun _ js _ => P.tags.length - (intOf js).toNat)
          case atStart => exact ⟨0, false, rfl, Nat.zero_le _, rfl, by simp, hbw⟩
          case round =>
            clear z1 hbw
            obtain ⟨j, q, rfl, hj, rfl, hq, bx⟩ := hrel
            have u1 := cellsAt (at_below PP.out bx) 0
            simp only [List.getElem?_toArray, List.getElem?_cons_zero, List.getElem?_cons_succ] at u1
            by_cases hj1 : j < P.tags.length
            · obtain ⟨_, _, hao, ha⟩ := TG.out.on bx
              cases hao
              obtain ⟨g2, o2, rfl, hca⟩ := ha (by omega)
              obtain ⟨y, hy⟩ : ∃ y, P.tags[j]? = some y := ⟨_, List.getElem?_eq_getElem hj1⟩
              have c0 := hca j (strV y) (by unfold scells; rw [List.getElem?_map, hy]; rfl)
              unfold strV at c0
              have v1 := cellsAt (at_below RR.out bx) 1
              simp only [List.getElem?_toArray, List.getElem?_cons_zero, List.getElem?_cons_succ] at v1
              obtain ⟨d0', d1'⟩ := HC.out
              have d0 := (bx.cell (p := ⟨g, o + k2 * 3, none⟩) (cell_lt d0')).trans d0'
              have HM := Lib.hid (mem_take_succ P.tags j tag.data.toList y hy)
              have HQ := Lib.hid hq
              have ik0 : (0 : Int) ≤ (j : Int) := by omega
              have ik1 : (j : Int) < (P.tags.length : Int) := by omega
              have jk0 : (0 : Int) ≤ (k2 : Int) := by omega
              have jk1 : (k2 : Int) < (r.lt.length : Int) := by omega
              clear ha hca hy d0' d1' hq
              cases q with
              | true =>
                go_wp2
                go_quiet (fail)
                go_wp2
                exact ⟨⟨j + 1, true, by go_num, by omega, rfl, by rw [HM.out, ← HQ.out]; exact ⟨fun _ => .inl (by first | rfl | trivial), fun _ => (by first | rfl | trivial)⟩, K.below_drewN' bx nq⟩, by simp [intOf]; omega⟩
              | false =>
                by_cases hyi : y = tag.data.toList
                · have hb1 : ((⟨y.toArray⟩ : ByteArray).toList == tag.toList) = true := str_eq (by rw [hyi])
                  go_wp2
                  go_quiet (fail)
                  go_wp2
                  exact ⟨⟨j + 1, true, by go_num, by omega, (by first | rfl | simp), by rw [HM.out]; exact ⟨fun _ => .inr hyi, fun _ => (by first | rfl | trivial)⟩, K.below_drewN' bx nq⟩, by simp [intOf]; omega⟩
                · have hb1 : ((⟨y.toArray⟩ : ByteArray).toList == tag.toList) = false := str_ne (fun e => hyi (by rw [← e]))
                  have hyi2 : ¬ y = tag.toList := by rw [ByteArray.toList_eq]; exact hyi
                  go_wp2
                  go_quiet (fail)
                  go_wp2
                  exact ⟨⟨j + 1, false, by go_num, by omega, (by first | rfl | simp [hyi, hyi2]), by rw [HM.out, ← HQ.out]; exact ⟨fun h => absurd h (by decide), fun h => h.elim (fun h => absurd h (by decide)) (fun h => absurd h hyi)⟩, K.below_drewN' bx nq⟩, by simp [intOf]; omega⟩
            · have hge : ¬ ((j : Int) < (P.tags.length : Int)) := by omega
              obtain rfl : j = P.tags.length := by omega
              rw [List.take_length] at hq
              have hb := HX.out
              have v1 := cellsAt (at_below RR.out bx) 1
              simp only [List.getElem?_toArray, List.getElem?_cons_zero, List.getElem?_cons_succ] at v1
              obtain ⟨d0', d1'⟩ := HC.out
              have d1 := (bx.cell (p := ⟨g, o + k2 * 3 + 1, none⟩) (cell_lt d1')).trans d1'
              have jk0 : (0 : Int) ≤ (k2 : Int) := by omega
              have jk1 : (k2 : Int) < (r.lt.length : Int) := by omega
              have h4 := hb.held
              have h0 := hb.free
              simp only at h4 h0
              clear hb d0' d1'
              by_cases e4 : st = 4
              · subst e4
                have hqt : q = true := hq.2 (h4 rfl)
                subst hqt
                clear hq h4 h0
                go_wp2
                exact ⟨⟨k2 + 1, by go_num, by omega, bx⟩, by simp [intOf]; omega⟩
              · by_cases e0 : st = 0
                · subst e0
                  have hqf : q = false := by cases q with | true => exact absurd (hq.1 rfl) (h0 rfl) | false => rfl
                  subst hqf
                  clear hq h4 h0
                  go_wp2
                  exact ⟨⟨k2 + 1, by go_num, by omega, bx⟩, by simp [intOf]; omega⟩
                · clear hq h4 h0
                  have hb1 : (st == 4) = false := by simp [e4]
                  have hb2 : (st == 0) = false := by simp [e0]
                  go_wp2
                  exact ⟨⟨k2 + 1, by go_num, by omega, bx⟩, by simp [intOf]; omega⟩
        · have hge : ¬ ((k2 : Int) < (r.lt.length : Int)) := by omega
          go_wp2
          go_ret
          exact ⟨rfl, b5.trans (hbw.mono b5.size)⟩
end Go.Proofs.YteibjmlimcpaoaaGreatDoor.W
