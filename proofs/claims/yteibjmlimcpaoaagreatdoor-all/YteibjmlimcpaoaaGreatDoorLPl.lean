/-
  What the law's own plain answers of a session that is one: true; nothing that lay in memory turns.
-/
import Derived.Test.YteibjmlimcpaoaaGreatDoorWf
import Derived.Test.YteibjmlimcpaoaaGreatDoorWg
import Derived.Test.YteibjmlimcpaoaaGreatDoorPa
set_option linter.unusedVariables false
set_option linter.unusedSimpArgs false
namespace Go.Proofs.YteibjmlimcpaoaaGreatDoor.V
open Go.RowKit Go.Sort
open Go.Proofs.YteibjmlimcpaoaaGreatDoor.W (at_below at_alloc new_at below_alloc cellsAt PolIs pv strV Gl cell_lt own_slice own_any inspectW sinspectW publicW newW BoolsAt)

def polA : Pol := ⟨[], [], 1⟩
def fontA : List UInt8 := [0, 1, 0, 0, 0, 0, 0, 0, 0, 0, 0, 0]
theorem polA_is (w : World) : PolIs polA (.slice none 0 0) (.slice none 0 0) w := ⟨⟨none, 0, rfl, fun h => by cases h⟩, ⟨none, 0, rfl, fun h => by cases h⟩, by simp [polA], by simp [polA], by simp [polA]⟩
theorem docA : (docR polA fontA).kind = 1 ∧ (docR polA fontA).nm = 8 ∧ (docR polA fontA).cs = 8 := by decide +kernel
theorem inspA : ∃ r st rd, inspOf polA fontA 5000 = (r, (st, rd), 0) ∧ r.kind = 1 ∧ r.nm = 8 ∧ r.cs = 8 := by
  have h := insp_eq polA fontA 5000 (by decide) (by decide)
  have hs := steps_le polA fontA
  have hl : fontA.length = 12 := rfl
  rw [if_pos (by rw [hl] at hs; omega)] at h
  have d := doc_is polA fontA
  have hd := docA
  rw [d] at hd
  exact ⟨_, _, _, h, hd.1, hd.2.1, hd.2.2⟩
theorem pubA : pubOf polA fontA = (List.replicate 12 true, 0) := by decide +kernel

theorem publicA (w : World) (hg : Gl w) (htab : w.cell? ⟨7, 15, none⟩ = some (.int .u8 4)) :
    Calls Tryz.prog 22 #[pv (.slice none 0 0) (.slice none 0 0) polA.text, strV fontA] w fun e w' => ∃ g, e = .returned (.tuple #[.slice (some ⟨g, 0, none⟩) 12 12, .int .i64 0]) ∧ w'.cell? ⟨g, 0, none⟩ = some (.bool true) ∧ w'.cell? ⟨g, 11, none⟩ = some (.bool true) ∧ Below w.heap.size w w' := by
  refine (publicW polA (.slice none 0 0) (.slice none 0 0) fontA w (by decide) (polA_is w) hg htab _ 0 pubA).mono ?_
  rintro e w' ⟨V, rfl, _, hV, hb⟩
  obtain ⟨g, rfl, hgg, hba⟩ := hV rfl
  refine ⟨g, by simp, ?_, ?_, hb⟩
  · have := cellsAt hba 0
    simpa using this
  · have := cellsAt hba 11
    simpa using this

set_option maxRecDepth 100000 in
set_option maxHeartbeats 4000000 in
theorem plainV (sp : Addr) (w : World) (hg : Gl w) (htab : w.cell? ⟨7, 15, none⟩ = some (.int .u8 4)) :
    Calls Tryz.prog 9 #[.pointer (some sp)] w fun e w' => e = .returned (.bool true) ∧ Below w.heap.size w w' := by
  obtain ⟨r, st, rd, hr, k1, k2, k3⟩ := inspA
  have HG := Lib.hid (fun (x : World) (h : Below w.heap.size w x) => hg.on h)
  have HB := Lib.hid (fun (x : World) (h : Below w.heap.size w x) => (h.cell (p := ⟨7, 15, none⟩) (cell_lt htab)).trans htab)
  have CI := Lib.hid (inspectW polA (.slice none 0 0) (.slice none 0 0) fontA 5000 w (by decide) (by decide) (polA_is w) hg htab r st rd 0 hr)
  have CS := Lib.hid (fun (x : World) (h : Below w.heap.size w x) => sinspectW sp polA (.slice none 0 0) (.slice none 0 0) fontA 5000 x (by decide) (by decide) (polA_is x) (HG.out x h) (HB.out x h) r st rd 0 hr)
  have CP := Lib.hid (fun (x : World) (h : Below w.heap.size w x) => publicA x (HG.out x h) (HB.out x h))
  have ht : polA.text = 1 := rfl
  have hf : (fontA.toArray : Array UInt8) = #[0, 1, 0, 0, 0, 0, 0, 0, 0, 0, 0, 0] := rfl
  unfold pv strV at CI CS CP
  rw [ht, hf] at CI CS CP
  unfold Rep.val at CI CS
  have HK := Lib.hid (And.intro k1 (And.intro k2 k3))
  clear hr k1 k2 k3 hg htab ht hf
  go_enter Tryz.func9, Tryz.ntmps9
  go_wp2_with (go_at_call 12; refine CI.out.mono ?_; rintro e w1 ⟨VA, VB, rfl, oA, oB, hb1⟩; obtain ⟨a1, a2, rfl⟩ := own_slice oA; obtain ⟨a3, a4, rfl⟩ := own_slice oB; refine Hid.out ?_)
  obtain ⟨W1, hW1⟩ : ∃ W, (w1.alloc (.cells #[.int .i64 r.kind, .slice a1 r.lt.length a2, .int .i64 r.hs, .int .i64 r.hf, .int .i64 r.hu, .int .i64 r.rs, .int .i64 r.rv, .int .i64 r.rb, .int .i64 r.nm, .slice a3 r.ln.length a4, .int .i64 r.cs, .int .i64 r.cf, .int .i64 r.cc] 39)).alloc (.cells #[.int .i64 (st : Int), .int .i64 (rd : Int)] 41) = W := ⟨_, rfl⟩
  have g1 : Below w1.heap.size w1 W1 := by rw [← hW1]; exact (below_alloc _ _).alloc (by simp) _
  have p1 : W1.heap[w1.heap.size]? = some (.cells #[.int .i64 r.kind, .slice a1 r.lt.length a2, .int .i64 r.hs, .int .i64 r.hf, .int .i64 r.hu, .int .i64 r.rs, .int .i64 r.rv, .int .i64 r.rb, .int .i64 r.nm, .slice a3 r.ln.length a4, .int .i64 r.cs, .int .i64 r.cf, .int .i64 r.cc] 39 (0, 0)) := by rw [← hW1]; exact at_alloc (new_at _ _)
  have bW1 : Below w.heap.size w W1 := hb1.trans (g1.mono hb1.size)
  have HP := Lib.hid p1
  clear p1 g1 oA oB hb1 CI
  have C2 := Lib.hid (CP.out W1 bW1)
  refine Lib.hid ?_
  go_wp2_with (go_at_call 22; refine C2.out.mono ?_; rintro e w2 ⟨g, rfl, c0, c11, hb2⟩; refine Hid.out ?_)
  clear hW1 C2 CP
  have bw2 := bW1.trans (hb2.mono bW1.size)
  have p2 := at_below HP.out hb2
  have C3 := Lib.hid (CS.out w2 bw2)
  clear HP hb2 CS
  have HP := Lib.hid p2
  clear p2
  refine Lib.hid ?_
  go_wp2_with (go_at_call 30; refine C3.out.mono ?_; rintro e w3 ⟨VA, VB, rfl, oA, oB, hb3⟩; obtain ⟨d1, d2, rfl⟩ := own_slice oA; obtain ⟨d3, d4, rfl⟩ := own_slice oB; refine Hid.out ?_)
  clear c0 c11 C3
  obtain ⟨W3, hW3⟩ : ∃ W, (w3.alloc (.cells #[.int .i64 r.kind, .slice d1 r.lt.length d2, .int .i64 r.hs, .int .i64 r.hf, .int .i64 r.hu, .int .i64 r.rs, .int .i64 r.rv, .int .i64 r.rb, .int .i64 r.nm, .slice d3 r.ln.length d4, .int .i64 r.cs, .int .i64 r.cf, .int .i64 r.cc] 39)).alloc (.cells #[.int .i64 (st : Int), .int .i64 (rd : Int)] 41) = W := ⟨_, rfl⟩
  have g3 : Below w3.heap.size w3 W3 := by rw [← hW3]; exact (below_alloc _ _).alloc (by simp) _
  have q3 : W3.heap[w3.heap.size]? = some (.cells #[.int .i64 r.kind, .slice d1 r.lt.length d2, .int .i64 r.hs, .int .i64 r.hf, .int .i64 r.hu, .int .i64 r.rs, .int .i64 r.rv, .int .i64 r.rb, .int .i64 r.nm, .slice d3 r.ln.length d4, .int .i64 r.cs, .int .i64 r.cf, .int .i64 r.cc] 39 (0, 0)) := by rw [← hW3]; exact at_alloc (new_at _ _)
  have p3 := at_below (at_below HP.out hb3) g3
  have bw3 := bw2.trans (hb3.mono bw2.size)
  have bW3 := bw3.trans (g3.mono bw3.size)
  have x0 := cellsAt p3 0
  have x8 := cellsAt p3 8
  have y0 := cellsAt q3 0
  have y10 := cellsAt q3 10
  simp only [List.getElem?_toArray, List.getElem?_cons_zero, List.getElem?_cons_succ] at x0 x8 y0 y10
  clear p3 q3 g3 hb3 oA oB HP
  have e1 : (r.kind == 1) = true := beq_iff_eq.2 HK.out.1
  have e2 : (r.nm == 8) = true := beq_iff_eq.2 HK.out.2.1
  have e3 : (r.cs == 8) = true := beq_iff_eq.2 HK.out.2.2
  refine Lib.hid ?_
  go_wp2
  go_ret
  exact ⟨rfl, bW3⟩
end Go.Proofs.YteibjmlimcpaoaaGreatDoor.V
