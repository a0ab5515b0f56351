/-
  The law Decodes answers true, and leaves alone what lay in memory: visor.Decode answers, each time, the report and the error that the document's own answer gives, in memory of its own.
-/
import Derived.Test.YteibjmlimcpaoaaDoorLDec
set_option linter.unusedVariables false
set_option linter.unusedSimpArgs false
namespace Go.Proofs.YteibjmlimcpaoaaDoor
open Go.RowKit Go.Sort

theorem at37 {bb p : Nat} {w w' : World} {r : Rep} {T N : Value} {cs cs' : Array Value} {fz fz' : Nat × Nat} {B : Nat} (h : w.heap[p]? = some (.cells cs 37 fz)) (fr : Fr bb T.ownBlock N.ownBlock w w') (hbb : w.heap[bb]? = some (.cells cs' 52 fz')) (oT : w.ownsRow B 77 3 T r.lt.length (tcells r.lt)) (oN : w.ownsRow B 79 7 N r.ln.length (ncells r.ln)) : w'.heap[p]? = some (.cells cs 37 fz) := by
  refine fr _ _ _ _ h ?_ (by decide) (by decide) (by decide) ?_ ?_
  · rintro rfl
    rw [h] at hbb
    cases hbb
  · exact fun e => own_kind_ne' oT h (by decide) e.symm
  · exact fun e => own_kind_ne' oN h (by decide) e.symm
theorem new_ne {a T2 T1 : Option Nat} {s : Nat} (h : a = none ∨ a = T1 ∨ ∃ k, a = some k ∧ s ≤ k) (h1 : T2 = none ∨ T1 ≠ T2) (h2 : ∀ k, T2 = some k → k < s) : T2 = none ∨ a ≠ T2 := by
  cases T2 with
  | none => exact .inl rfl
  | some k =>
    right
    rcases h with rfl | rfl | ⟨j, rfl, hj⟩
    · simp
    · exact h1.resolve_left (by simp)
    · intro e
      have := h2 k rfl
      cases e
      omega

set_option maxRecDepth 100000 in
set_option maxHeartbeats 8000000 in
theorem decodes_any (S : ByteArray) (c : Int) (r : Rep) (X : Int) (w : World) (hc0 : -9223372036854775808 ≤ c) (hc1 : c ≤ 9223372036854775807) (hlt : r.lt.length ≤ 256) (hln : r.ln.length ≤ 256) (hu : Utabs w)
    (hX : ∀ w1, Utabs w1 → AnsIs 17 ⟨#[1, 0, 8, 0, 0, 0, 0, 8, 0, 0, 0, 0, 8, 0, 8, 0, 0, 0, 0, 0, 0]⟩ ⟨1, [], 8, 0, 0, 8, 0, 0, 8, [], 8, 0, 0⟩ 0 w1)
    (hD : ∀ w1, Utabs w1 → AnsIs 17 S r X w1) (hE : ∀ w1, AnsIs 18 S r X w1) :
    Calls Tryd.prog 6 #[.string S, .int .i64 c] w fun e w' => e = .returned (.bool true) ∧ Below w.heap.size w w' := by
  have HU := Lib.hid hu
  have A0 := Lib.hid (hX w hu)
  have HD := Lib.hid hD
  have HE := Lib.hid hE
  clear hu hX hD hE
  unfold AnsIs at A0
  simp only [List.length_nil] at A0
  go_enter Tryd.func6, Tryd.ntmps6
  go_wp2_with (go_at_call 17; refine A0.out.mono ?_; rintro e w1 ⟨ta, tc, na, nc, rfl, _, _, hb1⟩; refine Hid.out ?_)
  have b1 : Below w.heap.size w (w1.alloc (.cells #[.int .i64 1, .slice ta 0 tc, .int .i64 8, .int .i64 0, .int .i64 0, .int .i64 8, .int .i64 0, .int .i64 0, .int .i64 8, .slice na 0 nc, .int .i64 8, .int .i64 0, .int .i64 0] 37)) := hb1.alloc hb1.size _
  have A1 := Lib.hid (HE.out (w1.alloc (.cells #[.int .i64 1, .slice ta 0 tc, .int .i64 8, .int .i64 0, .int .i64 0, .int .i64 8, .int .i64 0, .int .i64 0, .int .i64 8, .slice na 0 nc, .int .i64 8, .int .i64 0, .int .i64 0] 37)))
  clear A0 HE hb1
  refine Lib.hid ?_
  go_wp2_with (go_at_call 18; refine A1.out.mono ?_; rintro e w2 ⟨t0, u0, n0, v0, rfl, oT0, oN0, hb2⟩; refine Hid.out ?_)
  have b2 := b1.trans (hb2.mono b1.size)
  have d0 : DBk w (w2.heap.size + 1) w2.heap.size r (.slice t0 r.lt.length u0) (.slice n0 r.ln.length v0) [] 0 ((w2.alloc (.cells #[.int .i64 r.kind, (.slice t0 r.lt.length u0), .int .i64 r.hs, .int .i64 r.hf, .int .i64 r.hu, .int .i64 r.rs, .int .i64 r.rv, .int .i64 r.rb, .int .i64 r.nm, (.slice n0 r.ln.length v0), .int .i64 r.cs, .int .i64 r.cf, .int .i64 r.cc] 37)).alloc (.cells #[.slice none 0 0, .slice none 0 0, .slice none 0 0, .slice none 0 0, .slice none 0 0, .slice none 0 0, .int .i64 0] 52)) :=
    ⟨(b2.alloc b2.size _).alloc (by have := b2.size; simp; omega) _, ⟨by have := b2.size; omega, _, _, _, allocAtN _ _ _ (by simp), World.ownsRow_nil _ _ _ _, World.ownsRow_nil _ _ _ _, World.ownsRow_nil _ _ _ _, fun e he => by cases he⟩, allocOldN (allocAt _ _), own_mono ((oT0.alloc _).alloc _) (by have := b1.size; simpa using this), own_mono ((oN0.alloc _).alloc _) (by have := b1.size; simpa using this), fun e he => by cases he⟩
  have HDS := Lib.hid d0
  clear d0 b1 b2 hb2 oT0 oN0 A1
  refine Lib.hid ?_
  go_wp2
  go_loopw [10] (fun is wr => ∃ (i : Nat) (es : List Ent), is = .int .i64 (i : Int) ∧ i ≤ 32 ∧ es.length = 8 * i ∧ DBk w (w2.heap.size + 1) w2.heap.size r (.slice t0 r.lt.length u0) (.slice n0 r.ln.length v0) es (2 * i) wr) (fun is _ => 32 - (intOf is).toNat)
  case atStart => exact ⟨0, [], rfl, by omega, rfl, HDS.out⟩
  case round =>
    clear HDS
    obtain ⟨i, es, rfl, hi, hes, d⟩ := hrel
    have D1 := Lib.hid (HD.out wr (HU.out.below d.bw))
    go_wp2_with (go_at_call 19; refine (pick17 c wr hc0 hc1).mono ?_; rintro e w' ⟨m, hm, rfl, rfl⟩; refine Hid.out ?_)
    have wl := wrapL ((2 : Int) + (m : Int)) (by omega) (by omega)
    by_cases hlt2 : i < 2 + m
    · have ci : (i : Int) < 2 + (m : Int) := by omega
      have hes' := Lib.hid hes
      clear hes
      refine Lib.hid ?_
      go_wp2_with (go_at_call 17; refine D1.out.mono ?_; rintro e w3 ⟨t1, u1, n1, v1, rfl, oT1, oN1, hb3⟩; refine Hid.out ?_)
      have da := d.below hb3
      have db := da.below ((Below.refl w3.heap.size w3).alloc (Nat.le_refl _) (.cells #[.int .i64 r.kind, (.slice t1 r.lt.length u1), .int .i64 r.hs, .int .i64 r.hf, .int .i64 r.hu, .int .i64 r.rs, .int .i64 r.rv, .int .i64 r.rb, .int .i64 r.nm, (.slice n1 r.ln.length v1), .int .i64 r.cs, .int .i64 r.cf, .int .i64 r.cc] 37))
      have D2 := Lib.hid (HD.out (w3.alloc (.cells #[.int .i64 r.kind, (.slice t1 r.lt.length u1), .int .i64 r.hs, .int .i64 r.hf, .int .i64 r.hu, .int .i64 r.rs, .int .i64 r.rv, .int .i64 r.rb, .int .i64 r.nm, (.slice n1 r.ln.length v1), .int .i64 r.cs, .int .i64 r.cf, .int .i64 r.cc] 37)) (HU.out.below db.bw))
      refine Lib.hid ?_
      go_wp2_with (go_at_call 17; refine D2.out.mono ?_; rintro e w4 ⟨t2, u2, n2, v2, rfl, oT2, oN2, hb4⟩; refine Hid.out ?_)
      have hwr := d.bw.size
      have hw3 := hb3.size
      have oT1c := own_any (oT1.alloc (.cells #[.int .i64 r.kind, (.slice t1 r.lt.length u1), .int .i64 r.hs, .int .i64 r.hf, .int .i64 r.hu, .int .i64 r.rs, .int .i64 r.rv, .int .i64 r.rb, .int .i64 r.nm, (.slice n1 r.ln.length v1), .int .i64 r.cs, .int .i64 r.cf, .int .i64 r.cc] 37)) hb4
      have oN1c := own_any (oN1.alloc (.cells #[.int .i64 r.kind, (.slice t1 r.lt.length u1), .int .i64 r.hs, .int .i64 r.hf, .int .i64 r.hu, .int .i64 r.rs, .int .i64 r.rv, .int .i64 r.rb, .int .i64 r.nm, (.slice n1 r.ln.length v1), .int .i64 r.cs, .int .i64 r.cf, .int .i64 r.cc] 37)) hb4
      have h11c := belowAt' hb4 (allocAt w3 (.cells #[.int .i64 r.kind, (.slice t1 r.lt.length u1), .int .i64 r.hs, .int .i64 r.hf, .int .i64 r.hu, .int .i64 r.rs, .int .i64 r.rv, .int .i64 r.rb, .int .i64 r.nm, (.slice n1 r.ln.length v1), .int .i64 r.cs, .int .i64 r.cf, .int .i64 r.cc] 37))
      have hw4 := hb4.size
      have q2 : ∀ k, (Value.slice t2 r.lt.length u2).ownBlock = some k → w3.heap.size + 1 ≤ k := fun k hk => by have := (oT2.lt k hk).1; simpa using this
      have p2 : ∀ k, (Value.slice n2 r.ln.length v2).ownBlock = some k → w3.heap.size + 1 ≤ k := fun k hk => by have := (oN2.lt k hk).1; simpa using this
      have q1 : ∀ k, (Value.slice t1 r.lt.length u1).ownBlock = some k → w'.heap.size ≤ k ∧ k < w3.heap.size := fun k hk => oT1.lt k hk
      have p1 : ∀ k, (Value.slice n1 r.ln.length v1).ownBlock = some k → w'.heap.size ≤ k ∧ k < w3.heap.size := fun k hk => oN1.lt k hk
      have qE : ∀ e ∈ es, (∀ k, e.T.ownBlock = some k → k < w'.heap.size) ∧ (∀ k, e.N.ownBlock = some k → k < w'.heap.size) := by
        obtain ⟨_, _, _, _, _, _, _, _, hh⟩ := d.bk
        exact fun e he => ⟨fun k hk => ((hh e he).1.lt k hk).2, fun k hk => ((hh e he).2.lt k hk).2⟩
      have q0 : ∀ k, (Value.slice t0 r.lt.length u0).ownBlock = some k → k < w'.heap.size := fun k hk => (d.oT.lt k hk).2
      have p0 : ∀ k, (Value.slice n0 r.ln.length v0).ownBlock = some k → k < w'.heap.size := fun k hk => (d.oN.lt k hk).2
      have HQ := Lib.hid (And.intro q0 (And.intro p0 (And.intro q1 (And.intro p1 (And.intro q2 (And.intro p2 qE))))))
      have oT2c := own_mono oT2 (B' := w.heap.size) (by simp; omega)
      have oN2c := own_mono oN2 (B' := w.heap.size) (by simp; omega)
      have oT1d := own_mono oT1c (B' := w.heap.size) (by omega)
      have oN1d := own_mono oN1c (B' := w.heap.size) (by omega)
      have dc := db.below hb4
      have a4 : Below w4.heap.size w4 (w4.alloc (.cells #[.int .i64 r.kind, (.slice t2 r.lt.length u2), .int .i64 r.hs, .int .i64 r.hf, .int .i64 r.hu, .int .i64 r.rs, .int .i64 r.rv, .int .i64 r.rb, .int .i64 r.nm, (.slice n2 r.ln.length v2), .int .i64 r.cs, .int .i64 r.cf, .int .i64 r.cc] 37)) := (Below.refl _ _).alloc (Nat.le_refl _) _
      have dd := dc.below a4
      have h11 := belowAt' a4 h11c
      have h13 := allocAt w4 (.cells #[.int .i64 r.kind, (.slice t2 r.lt.length u2), .int .i64 r.hs, .int .i64 r.hf, .int .i64 r.hu, .int .i64 r.rs, .int .i64 r.rv, .int .i64 r.rb, .int .i64 r.nm, (.slice n2 r.ln.length v2), .int .i64 r.cs, .int .i64 r.cf, .int .i64 r.cc] 37)
      have oT1e := own_any oT1d a4
      have oN1e := own_any oN1d a4
      have oT2e := own_any oT2c a4
      have oN2e := own_any oN2c a4
      have C1 := Lib.hid (sameR18 r.kind r.hs r.hf r.hu r.rs r.rv r.rb r.nm r.cs r.cf r.cc (.slice t1 r.lt.length u1) (.slice n1 r.ln.length v1) (.slice t0 r.lt.length u0) (.slice n0 r.ln.length v0) r.lt r.ln _ (by omega) (by omega) (rowOfOwn oT1e) (rowOfOwn oN1e) (rowOfOwn dd.oT) (rowOfOwn dd.oN))
      have s11 : w3.heap.size < w4.heap.size := (Array.getElem?_eq_some_iff.1 h11c).1
      have s7 : w2.heap.size < w4.heap.size := (Array.getElem?_eq_some_iff.1 dc.h7).1
      have s11' : w3.heap.size ≠ w4.heap.size := by omega
      have s7' : w2.heap.size ≠ w4.heap.size := by omega
      have x0 := cellsAt h11 0
      have x1 := cellsAt h11 1
      have x2 := cellsAt h11 2
      have x3 := cellsAt h11 3
      have x4 := cellsAt h11 4
      have x5 := cellsAt h11 5
      have x6 := cellsAt h11 6
      have x7 := cellsAt h11 7
      have x8 := cellsAt h11 8
      have x9 := cellsAt h11 9
      have x10 := cellsAt h11 10
      have x11 := cellsAt h11 11
      have x12 := cellsAt h11 12
      simp only [List.getElem?_toArray, List.getElem?_cons_zero, List.getElem?_cons_succ] at x0 x1 x2 x3 x4 x5 x6 x7 x8 x9 x10 x11 x12
      have y0 := cellsAt dd.h7 0
      have y1 := cellsAt dd.h7 1
      have y2 := cellsAt dd.h7 2
      have y3 := cellsAt dd.h7 3
      have y4 := cellsAt dd.h7 4
      have y5 := cellsAt dd.h7 5
      have y6 := cellsAt dd.h7 6
      have y7 := cellsAt dd.h7 7
      have y8 := cellsAt dd.h7 8
      have y9 := cellsAt dd.h7 9
      have y10 := cellsAt dd.h7 10
      have y11 := cellsAt dd.h7 11
      have y12 := cellsAt dd.h7 12
      simp only [List.getElem?_toArray, List.getElem?_cons_zero, List.getElem?_cons_succ] at y0 y1 y2 y3 y4 y5 y6 y7 y8 y9 y10 y11 y12
      have xx0 := cellsAt h11c 0
      have xx1 := cellsAt h11c 1
      have xx2 := cellsAt h11c 2
      have xx3 := cellsAt h11c 3
      have xx4 := cellsAt h11c 4
      have xx5 := cellsAt h11c 5
      have xx6 := cellsAt h11c 6
      have xx7 := cellsAt h11c 7
      have xx8 := cellsAt h11c 8
      have xx9 := cellsAt h11c 9
      have xx10 := cellsAt h11c 10
      have xx11 := cellsAt h11c 11
      have xx12 := cellsAt h11c 12
      simp only [List.getElem?_toArray, List.getElem?_cons_zero, List.getElem?_cons_succ] at xx0 xx1 xx2 xx3 xx4 xx5 xx6 xx7 xx8 xx9 xx10 xx11 xx12
      have yy0 := cellsAt dc.h7 0
      have yy1 := cellsAt dc.h7 1
      have yy2 := cellsAt dc.h7 2
      have yy3 := cellsAt dc.h7 3
      have yy4 := cellsAt dc.h7 4
      have yy5 := cellsAt dc.h7 5
      have yy6 := cellsAt dc.h7 6
      have yy7 := cellsAt dc.h7 7
      have yy8 := cellsAt dc.h7 8
      have yy9 := cellsAt dc.h7 9
      have yy10 := cellsAt dc.h7 10
      have yy11 := cellsAt dc.h7 11
      have yy12 := cellsAt dc.h7 12
      simp only [List.getElem?_toArray, List.getElem?_cons_zero, List.getElem?_cons_succ] at yy0 yy1 yy2 yy3 yy4 yy5 yy6 yy7 yy8 yy9 yy10 yy11 yy12
      clear d da db dc oT1 oN1 oT2 oN2 hb3 hb4 oT1c oN1c oT2c oN2c oT1d oN1d q0 p0 q1 p1 q2 p2 qE D1 D2 h11c a4
      refine Lib.hid ?_
      go_wp2_with (go_at_call 20; refine C1.out.mono ?_; rintro e w5 ⟨rfl, hb5⟩; refine Hid.out ?_)
      clear x0 x1 x2 x3 x4 x5 x6 x7 x8 x9 x10 x11 x12 y0 y1 y2 y3 y4 y5 y6 y7 y8 y9 y10 y11 y12 xx0 xx1 xx2 xx3 xx4 xx5 xx6 xx7 xx8 xx9 xx10 xx11 xx12 yy0 yy1 yy2 yy3 yy4 yy5 yy6 yy7 yy8 yy9 yy10 yy11 yy12
      have de := dd.below hb5
      have i11 := belowAt' hb5 h11
      have i13 := belowAt' hb5 h13
      have T15 := own_any oT1e hb5
      have N15 := own_any oN1e hb5
      have T25 := own_any oT2e hb5
      have N25 := own_any oN2e hb5
      clear dd h11 h13 oT1e oN1e oT2e oN2e C1
      have C2 := Lib.hid (sameR18 r.kind r.hs r.hf r.hu r.rs r.rv r.rb r.nm r.cs r.cf r.cc (.slice t2 r.lt.length u2) (.slice n2 r.ln.length v2) (.slice t0 r.lt.length u0) (.slice n0 r.ln.length v0) r.lt r.ln w5 (by omega) (by omega) (rowOfOwn T25) (rowOfOwn N25) (rowOfOwn de.oT) (rowOfOwn de.oN))
      have z0 := cellsAt i13 0
      have z1 := cellsAt i13 1
      have z2 := cellsAt i13 2
      have z3 := cellsAt i13 3
      have z4 := cellsAt i13 4
      have z5 := cellsAt i13 5
      have z6 := cellsAt i13 6
      have z7 := cellsAt i13 7
      have z8 := cellsAt i13 8
      have z9 := cellsAt i13 9
      have z10 := cellsAt i13 10
      have z11 := cellsAt i13 11
      have z12 := cellsAt i13 12
      simp only [List.getElem?_toArray, List.getElem?_cons_zero, List.getElem?_cons_succ] at z0 z1 z2 z3 z4 z5 z6 z7 z8 z9 z10 z11 z12
      have y0 := cellsAt de.h7 0
      have y1 := cellsAt de.h7 1
      have y2 := cellsAt de.h7 2
      have y3 := cellsAt de.h7 3
      have y4 := cellsAt de.h7 4
      have y5 := cellsAt de.h7 5
      have y6 := cellsAt de.h7 6
      have y7 := cellsAt de.h7 7
      have y8 := cellsAt de.h7 8
      have y9 := cellsAt de.h7 9
      have y10 := cellsAt de.h7 10
      have y11 := cellsAt de.h7 11
      have y12 := cellsAt de.h7 12
      simp only [List.getElem?_toArray, List.getElem?_cons_zero, List.getElem?_cons_succ] at y0 y1 y2 y3 y4 y5 y6 y7 y8 y9 y10 y11 y12
      refine Lib.hid ?_
      go_wp2_with (go_at_call 20; refine C2.out.mono ?_; rintro e w6 ⟨rfl, hb6⟩; refine Hid.out ?_)
      clear z0 z1 z2 z3 z4 z5 z6 z7 z8 z9 z10 z11 z12 y0 y1 y2 y3 y4 y5 y6 y7 y8 y9 y10 y11 y12
      have df := de.below hb6
      have j11 := belowAt' hb6 i11
      have j13 := belowAt' hb6 i13
      have T16 := own_any T15 hb6
      have N16 := own_any N15 hb6
      have T26 := own_any T25 hb6
      have N26 := own_any N25 hb6
      clear de i11 i13 T15 N15 T25 N25 C2
      obtain ⟨q0, p0, q1, p1, q2, p2, qE⟩ := HQ.out
      have B1 := brep19 w.heap.size (w2.heap.size + 1) (2 * i) es r (.slice t1 r.lt.length u1) (.slice n1 r.ln.length v1) w6 df.bw.size (by omega) (by have := hes'.out; omega) hlt hln df.bk T16 N16 (fun e he => ne_sep' w'.heap.size (fun k hk => (q1 k hk).1) (qE e he).1) (fun e he => ne_sep' w'.heap.size (fun k hk => (p1 k hk).1) (qE e he).2)
      unfold Rep.val at B1
      have HB1 := Lib.hid B1
      clear B1 q0 p0 q1 p1 q2 p2 qE
      have x0 := cellsAt j11 0
      have x1 := cellsAt j11 1
      have x2 := cellsAt j11 2
      have x3 := cellsAt j11 3
      have x4 := cellsAt j11 4
      have x5 := cellsAt j11 5
      have x6 := cellsAt j11 6
      have x7 := cellsAt j11 7
      have x8 := cellsAt j11 8
      have x9 := cellsAt j11 9
      have x10 := cellsAt j11 10
      have x11 := cellsAt j11 11
      have x12 := cellsAt j11 12
      simp only [List.getElem?_toArray, List.getElem?_cons_zero, List.getElem?_cons_succ] at x0 x1 x2 x3 x4 x5 x6 x7 x8 x9 x10 x11 x12
      refine Lib.hid ?_
      go_wp2_with (go_at_call 21; refine HB1.out.mono ?_; rintro e w7 ⟨rfl, hb7, fr7, new1, hn1, bk7, hc7⟩; refine Hid.out ?_)
      clear x0 x1 x2 x3 x4 x5 x6 x7 x8 x9 x10 x11 x12
      obtain ⟨q0, p0, q1, p1, q2, p2, qE⟩ := HQ.out
      obtain ⟨cs52, hbb⟩ : ∃ cs, w6.heap[w2.heap.size + 1]? = some (.cells cs 52 (0, 0)) := by
        obtain ⟨_, VT, VN, VO, h, _⟩ := df.bk
        exact ⟨_, h⟩
      have dg := df.report hb7 fr7 bk7 (fun e he => (hc7 e he).1) T16 N16 (ne_sep w'.heap.size q0 (fun k hk => (q1 k hk).1)) (ne_sep w'.heap.size p0 (fun k hk => (p1 k hk).1))
      have k13 := at37 (r := r) j13 fr7 hbb T16 N16
      have n21 := ne_sep' (w3.heap.size + 1) q2 (fun k hk => Nat.lt_succ_of_lt (q1 k hk).2)
      have m21 := ne_sep' (w3.heap.size + 1) p2 (fun k hk => Nat.lt_succ_of_lt (p1 k hk).2)
      have T27 := own_fr T26 fr7 hbb (by decide) (n21.imp id Ne.symm) (ne_kind T26 N16 (by decide))
      have N27 := own_fr N26 fr7 hbb (by decide) (ne_kind N26 T16 (by decide)) (m21.imp id Ne.symm)
      have dT2 : ∀ e ∈ es ++ new1, (Value.slice t2 r.lt.length u2).ownBlock = none ∨ e.T.ownBlock ≠ (Value.slice t2 r.lt.length u2).ownBlock := by
        intro e he
        rcases List.mem_append.1 he with he | he
        · exact ne_sep' (w3.heap.size + 1) q2 (fun k hk => by have := (qE e he).1 k hk; omega)
        · exact new_ne (hc7 e he).2.1 n21 (fun k hk => (T26.lt k hk).2)
      have dN2 : ∀ e ∈ es ++ new1, (Value.slice n2 r.ln.length v2).ownBlock = none ∨ e.N.ownBlock ≠ (Value.slice n2 r.ln.length v2).ownBlock := by
        intro e he
        rcases List.mem_append.1 he with he | he
        · exact ne_sep' (w3.heap.size + 1) p2 (fun k hk => by have := (qE e he).2 k hk; omega)
        · exact new_ne (hc7 e he).2.2 m21 (fun k hk => (N26.lt k hk).2)
      have l1 : (es ++ new1).length = 8 * i + 4 := by rw [List.length_append, hes'.out, hn1]
      have e20 : (Value.slice t0 r.lt.length u0).ownBlock = none ∨ (Value.slice t0 r.lt.length u0).ownBlock ≠ (Value.slice t2 r.lt.length u2).ownBlock := ne_sep (w3.heap.size + 1) (fun k hk => by have := q0 k hk; omega) q2
      have f20 : (Value.slice n0 r.ln.length v0).ownBlock = none ∨ (Value.slice n0 r.ln.length v0).ownBlock ≠ (Value.slice n2 r.ln.length v2).ownBlock := ne_sep (w3.heap.size + 1) (fun k hk => by have := p0 k hk; omega) p2
      clear df j11 j13 T16 N16 T26 N26 HB1 hbb hb7 fr7 bk7 hc7 n21 m21 q0 p0 q1 p1 q2 p2 qE HQ
      obtain ⟨E1, hE1⟩ : ∃ E, es ++ new1 = E := ⟨_, rfl⟩
      rw [hE1] at dg dT2 dN2 l1
      clear hE1 hn1 new1 hes' es
      have L1 := Lib.hid (And.intro l1 (And.intro dT2 (And.intro dN2 (And.intro e20 f20))))
      clear l1 dT2 dN2 e20 f20
      have C3 := Lib.hid (sameR18 r.kind r.hs r.hf r.hu r.rs r.rv r.rb r.nm r.cs r.cf r.cc (.slice t2 r.lt.length u2) (.slice n2 r.ln.length v2) (.slice t0 r.lt.length u0) (.slice n0 r.ln.length v0) r.lt r.ln w7 (by omega) (by omega) (rowOfOwn T27) (rowOfOwn N27) (rowOfOwn dg.oT) (rowOfOwn dg.oN))
      have z0 := cellsAt k13 0
      have z1 := cellsAt k13 1
      have z2 := cellsAt k13 2
      have z3 := cellsAt k13 3
      have z4 := cellsAt k13 4
      have z5 := cellsAt k13 5
      have z6 := cellsAt k13 6
      have z7 := cellsAt k13 7
      have z8 := cellsAt k13 8
      have z9 := cellsAt k13 9
      have z10 := cellsAt k13 10
      have z11 := cellsAt k13 11
      have z12 := cellsAt k13 12
      simp only [List.getElem?_toArray, List.getElem?_cons_zero, List.getElem?_cons_succ] at z0 z1 z2 z3 z4 z5 z6 z7 z8 z9 z10 z11 z12
      have y0 := cellsAt dg.h7 0
      have y1 := cellsAt dg.h7 1
      have y2 := cellsAt dg.h7 2
      have y3 := cellsAt dg.h7 3
      have y4 := cellsAt dg.h7 4
      have y5 := cellsAt dg.h7 5
      have y6 := cellsAt dg.h7 6
      have y7 := cellsAt dg.h7 7
      have y8 := cellsAt dg.h7 8
      have y9 := cellsAt dg.h7 9
      have y10 := cellsAt dg.h7 10
      have y11 := cellsAt dg.h7 11
      have y12 := cellsAt dg.h7 12
      simp only [List.getElem?_toArray, List.getElem?_cons_zero, List.getElem?_cons_succ] at y0 y1 y2 y3 y4 y5 y6 y7 y8 y9 y10 y11 y12
      refine Lib.hid ?_
      go_wp2_with (go_at_call 20; refine C3.out.mono ?_; rintro e w8 ⟨rfl, hb8⟩; refine Hid.out ?_)
      clear z0 z1 z2 z3 z4 z5 z6 z7 z8 z9 z10 z11 z12 y0 y1 y2 y3 y4 y5 y6 y7 y8 y9 y10 y11 y12
      have dh := dg.below hb8
      have l13 := belowAt' hb8 k13
      have T28 := own_any T27 hb8
      have N28 := own_any N27 hb8
      clear dg k13 T27 N27 C3
      have B2 := brep19 w.heap.size (w2.heap.size + 1) (2 * i + 1) E1 r (.slice t2 r.lt.length u2) (.slice n2 r.ln.length v2) w8 dh.bw.size (by omega) (by have := L1.out.1; omega) hlt hln dh.bk T28 N28 L1.out.2.1 L1.out.2.2.1
      unfold Rep.val at B2
      have HB2 := Lib.hid B2
      clear B2
      have z0 := cellsAt l13 0
      have z1 := cellsAt l13 1
      have z2 := cellsAt l13 2
      have z3 := cellsAt l13 3
      have z4 := cellsAt l13 4
      have z5 := cellsAt l13 5
      have z6 := cellsAt l13 6
      have z7 := cellsAt l13 7
      have z8 := cellsAt l13 8
      have z9 := cellsAt l13 9
      have z10 := cellsAt l13 10
      have z11 := cellsAt l13 11
      have z12 := cellsAt l13 12
      simp only [List.getElem?_toArray, List.getElem?_cons_zero, List.getElem?_cons_succ] at z0 z1 z2 z3 z4 z5 z6 z7 z8 z9 z10 z11 z12
      refine Lib.hid ?_
      go_wp2_with (go_at_call 21; refine HB2.out.mono ?_; rintro e w9 ⟨rfl, hb9, fr9, new2, hn2, bk9, hc9⟩; refine Hid.out ?_)
      clear z0 z1 z2 z3 z4 z5 z6 z7 z8 z9 z10 z11 z12
      have di := dh.report hb9 fr9 bk9 (fun e he => (hc9 e he).1) T28 N28 L1.out.2.2.2.1 L1.out.2.2.2.2
      have l2 : (E1 ++ new2).length = 8 * (i + 1) := by have := L1.out.1; rw [List.length_append, hn2]; omega
      clear dh l13 T28 N28 HB2 hb9 fr9 bk9 hc9 L1
      obtain ⟨E2, hE2⟩ : ∃ E, E1 ++ new2 = E := ⟨_, rfl⟩
      rw [hE2] at di l2
      clear hE2 hn2 new2 E1
      have ST := Lib.hid (still20 w.heap.size (w2.heap.size + 1) (2 * i + 1 + 1) E2 w9 (by omega) (fun e he => by have := di.hq e he; omega) di.bk)
      have L2 := Lib.hid l2
      clear l2
      refine Lib.hid ?_
      go_wp2_with (go_at_call 22; refine ST.out.mono ?_; rintro e wz ⟨rfl, hbz⟩; refine Hid.out ?_)
      have dj := di.below hbz
      rw [show 2 * i + 1 + 1 = 2 * (i + 1) by omega] at dj
      clear di ST
      refine Lib.hid ?_
      go_wp2
      exact ⟨⟨i + 1, E2, by go_num, by omega, L2.out, dj⟩, by simp [intOf]; omega⟩
    · have ci : ¬ ((i : Int) < 2 + (m : Int)) := by omega
      have hb := d.bw
      refine Lib.hid ?_
      go_wp2
      go_ret
      exact ⟨rfl, hb⟩
theorem decodes6 (b : List UInt8) (c : Int) (w : World) (hl : b.length ≤ 9223372036854775807) (hc0 : -9223372036854775808 ≤ c) (hc1 : c ≤ 9223372036854775807) (hu : Utabs w) :
    Calls Tryd.prog 6 #[.string ⟨b.toArray⟩, .int .i64 c] w fun e w' => e = .returned (.bool true) ∧ Below w.heap.size w w' :=
  decodes_any ⟨b.toArray⟩ c (repOf b) (errOf b) w hc0 hc1 (repOf_len b).1 (repOf_len b).2 hu (fun w1 hu1 => by
    have h := ans15 exL w1 (by decide) hu1
    rw [ex_is, ex_err] at h
    exact h) (fun w1 hu1 => ans15 b w1 hl hu1) (fun w1 => ans16 b w1 hl)
end Go.Proofs.YteibjmlimcpaoaaDoor
