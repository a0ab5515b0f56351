/-
  The law Inspects answers true, and leaves alone what lay in memory.
-/
import Derived.Test.YteibjmlimcpaoaaGreatDoorLb
import Derived.Test.YteibjmlimcpaoaaGreatDoorLInR3
import Derived.Test.YteibjmlimcpaoaaGreatDoorLInR9
import Derived.Test.YteibjmlimcpaoaaGreatDoorLInR13
set_option linter.unusedVariables false
set_option linter.unusedSimpArgs false
namespace Go.Proofs.YteibjmlimcpaoaaGreatDoor.V
open Go.RowKit Go.Sort
open Go.Proofs.YteibjmlimcpaoaaGreatDoor.W (at_below at_alloc new_at below_alloc PolIs pv strV Gl cell_lt inspectW sinspectW newW RowIs)

theorem lent_is {P : Pol} {gt gn : Nat} {ct cn : Array Value} {w : World} {T I : Value} (hp : PolIs P T I w) (hgt : w.heap[gt]? = some (.cells ct 9 (0, 0))) (hct : ct.toList = Go.Proofs.YteibjmlimcpaoaaGreatDoor.W.scells (P.tags ++ List.replicate 8 beyond)) (hgn : w.heap[gn]? = some (.cells cn 3 (0, 0))) (hcn : cn.toList = Go.Proofs.YteibjmlimcpaoaaGreatDoor.W.icells (P.ids ++ List.replicate 8 (-77))) :
    PolIs P (.slice (some ⟨gt, 0, none⟩) P.tags.length (P.tags.length + 8)) (.slice (some ⟨gn, 0, none⟩) P.ids.length (P.ids.length + 8)) w :=
  ⟨rowOfBlock hgt (by rw [hct]; unfold Go.Proofs.YteibjmlimcpaoaaGreatDoor.W.scells; rw [List.map_append]) (by simp [Go.Proofs.YteibjmlimcpaoaaGreatDoor.W.scells]), rowOfBlock hgn (by rw [hcn]; unfold Go.Proofs.YteibjmlimcpaoaaGreatDoor.W.icells; rw [List.map_append]) (by simp [Go.Proofs.YteibjmlimcpaoaaGreatDoor.W.icells]), hp.nt, hp.ni, hp.ts⟩

set_option maxRecDepth 100000 in
set_option maxHeartbeats 60000000 in
theorem inspectsV (P : Pol) (T I : Value) (D : List UInt8) (w : World) (hp : PolIs P T I w) (hlt : P.tags.length ≤ 8796093021952) (hln : P.ids.length ≤ 17592186043904) (hD : D.length ≤ 140737488355328) (hg : Gl w) (htab : w.cell? ⟨7, 15, none⟩ = some (.int .u8 4)) :
    Calls Tryz.prog 3 #[pv T I P.text, strV D] w fun e w' => e = .returned (.bool true) ∧ Below w.heap.size w w' := by
  obtain ⟨r, er, hr⟩ : ∃ r er, askR P D = (r, er) := ⟨_, _, rfl⟩
  obtain ⟨st, rd, hin, hok, hno⟩ := insp_ask P D
  have hl := ask_len P D
  rw [hr] at hin hok hno hl
  simp only at hin hok hno hl
  obtain ⟨b, hb⟩ : ∃ b : Int, 64 * (D.length : Int) + 4096 = b := ⟨_, rfl⟩
  rw [hb] at hin hok
  have hb2 : b ≤ 9223372036854775807 := by omega
  have hb3 : b ≤ 9007199254745088 := by omega
  have ln1 : r.lt.length ≤ 256 := by omega
  have ln2 : r.ln.length ≤ 256 := by omega
  have HF := Lib.hid (And.intro hok hno)
  have CE := Lib.hid (fun (x : World) => enoughV D x hD b hb)
  have HG := Lib.hid (fun (x : World) (h : Below w.heap.size w x) => hg.on h)
  have HB := Lib.hid (fun (x : World) (h : Below w.heap.size w x) => (h.cell (p := ⟨7, 15, none⟩) (cell_lt htab)).trans htab)
  obtain ⟨pa, pcc, hTe, _⟩ := id hp.tags
  obtain ⟨ia, ic, hIe, _⟩ := id hp.ids
  subst hTe hIe
  have HI := Lib.hid (fun (T' I' : Value) (x : World) (h : Below w.heap.size w x) (hp' : PolIs P T' I' x) => inspectW P T' I' D b x (by omega) hb2 hp' (HG.out x h) (HB.out x h) r st rd er hin)
  have HR := Lib.hid (fun (x : World) (h : Below w.heap.size w x) => inspectD P (.slice pa P.tags.length pcc) (.slice ia P.ids.length ic) D x (hp.on h) (by omega) r er hr)
  obtain ⟨W, hW⟩ : ∃ W, w.alloc (.cells #[.slice pa P.tags.length pcc, .slice ia P.ids.length ic, .int .i64 P.text] 25) = W := ⟨_, rfl⟩
  have hbW : Below w.heap.size w W := by rw [← hW]; exact below_alloc _ _
  have n0 : W.heap[w.heap.size]? = some (.cells #[.slice pa P.tags.length pcc, .slice ia P.ids.length ic, .int .i64 P.text] 25 (0, 0)) := by rw [← hW]; exact new_at _ _
  have HP := Lib.hid hp
  have CN := Lib.hid (newW W)
  have CPl := Lib.hid (fun (sp : Addr) (x : World) (h : Below w.heap.size w x) => plainV sp x (HG.out x h) (HB.out x h))
  unfold pv strV
  unfold strV at CE
  clear hin hok hno hb hr hl hg htab hp
  go_enter Tryz.func3, Tryz.ntmps3
  go_wp2_with (go_at_call 10; refine CN.out.mono ?_; rintro e w1 ⟨⟨sp, rfl⟩, hb1⟩; refine Hid.out ?_)
  have b1 := hbW.trans (hb1.mono hbW.size)
  have C1 := Lib.hid (CPl.out sp w1 b1)
  refine Lib.hid ?_
  go_wp2_with (go_at_call 9; refine C1.out.mono ?_; rintro e w2 ⟨rfl, hb2'⟩; refine Hid.out ?_)
  have b2 := b1.trans (hb2'.mono b1.size)
  have n2 := at_below (at_below n0 hb1) hb2'
  have C2 := Lib.hid (lentP P (.slice pa P.tags.length pcc) (.slice ia P.ids.length ic) w2 (HP.out.on b2) hlt hln)
  unfold pv at C2
  clear C1 CN CPl hW n0 hbW hb1 hb2' b1
  have y0 := cellsAt n2 0
  have y1 := cellsAt n2 1
  have y2 := cellsAt n2 2
  simp only [List.getElem?_toArray, List.getElem?_cons_zero, List.getElem?_cons_succ] at y0 y1 y2
  refine Lib.hid ?_
  go_wp2_with (go_at_call 11; refine C2.out.mono ?_; rintro e w3 ⟨hb3, gt, gn, ct, cn, rfl, hgl, hgg, hgt, hct, hgn, hcn⟩; refine Hid.out ?_)
  clear y0 y1 y2 C2
  obtain ⟨W3, hW3⟩ : ∃ W, w3.alloc (.cells #[.slice (some ⟨gt, 0, none⟩) P.tags.length (P.tags.length + 8), .slice (some ⟨gn, 0, none⟩) P.ids.length (P.ids.length + 8), .int .i64 P.text] 25) = W := ⟨_, rfl⟩
  have g3 : Below w3.heap.size w3 W3 := by rw [← hW3]; exact below_alloc _ _
  have q1 : W3.heap[w3.heap.size]? = some (.cells #[.slice (some ⟨gt, 0, none⟩) P.tags.length (P.tags.length + 8), .slice (some ⟨gn, 0, none⟩) P.ids.length (P.ids.length + 8), .int .i64 P.text] 25 (0, 0)) := by rw [← hW3]; exact new_at _ _
  have b3 := b2.trans (hb3.mono b2.size)
  have bW3 := b3.trans (g3.mono b3.size)
  have p1 := at_below (at_below n2 hb3) g3
  have t1 := at_below hgt g3
  have t2 := at_below hgn g3
  have hp3 : PolIs P (.slice (some ⟨gt, 0, none⟩) P.tags.length (P.tags.length + 8)) (.slice (some ⟨gn, 0, none⟩) P.ids.length (P.ids.length + 8)) W3 := lent_is (HP.out.on bW3) t1 hct t2 hcn
  have CI := Lib.hid (fun (x : World) (h : Below W3.heap.size W3 x) => HI.out _ _ x (bW3.trans (h.mono bW3.size)) (hp3.on h))
  unfold pv strV Rep.val at CI
  have s1 : w2.heap.size ≤ w3.heap.size := hb3.size
  have s0 : w.heap.size < w2.heap.size := (Array.getElem?_eq_some_iff.1 n2).1
  have s3 : gn < w3.heap.size := (Array.getElem?_eq_some_iff.1 hgn).1
  have H3 := Lib.hid (And.intro p1 (And.intro t1 (And.intro t2 (And.intro hct (And.intro hcn bW3)))))
  clear n2 hgt hgn hct hcn hp3 p1 t1 t2 b2 b3 hb3 g3
  have y0 := cellsAt q1 0
  have y1 := cellsAt q1 1
  have y2 := cellsAt q1 2
  simp only [List.getElem?_toArray, List.getElem?_cons_zero, List.getElem?_cons_succ] at y0 y1 y2
  refine Lib.hid ?_
  go_upto_region 3 with fail
  go_cut [7, 8, 9] (fun s1 s2 s3 wx => ∃ (kk jj : Nat) (ta na : Option Addr) (tc nc : Nat), s1 = .pointer (some ⟨kk, 0, none⟩) ∧ s2 = .pointer (some ⟨jj, 0, none⟩) ∧ s3 = .int .i64 er ∧ Below W3.heap.size W3 wx ∧ W3.heap.size ≤ kk ∧ W3.heap.size ≤ jj ∧ RpAt W3.heap.size kk r (.slice ta r.lt.length tc) (.slice na r.ln.length nc) wx ∧ wx.heap[jj]? = some (.cells #[.int .i64 (st : Int), .int .i64 (rd : Int)] 41 (0, 0)))
  case first =>
    refine reg3 ln1 ln2 q1 CE CI ?_
    rintro a' w' ⟨v28, v29, v30, v31, v32, v33, v34, v35, v36, u1, u2, u3, hrel, rfl⟩
    go_wp2_with fail
    go_meet
    exact hrel
  case rest =>
    obtain ⟨kk, jj, ta, na, tc, nc, rfl, rfl, rfl, bc, lk, lj, r1, m1⟩ := hcut
    obtain ⟨Wc1, hWc1⟩ : ∃ W, W = wc := ⟨_, rfl⟩
    subst hWc1
    have lT1 : Hid ((∀ k, (Value.slice ta r.lt.length tc).ownBlock = some k → k < Wc1.heap.size) ∧ (∀ k, (Value.slice na r.ln.length nc).ownBlock = some k → k < Wc1.heap.size)) := Lib.hid ⟨fun k hk => (r1.oT.lt k hk).2, fun k hk => (r1.oN.lt k hk).2⟩
    clear y0 y1 y2 CI hW3
    have q1c := at_below q1 bc
    have p1c := at_below H3.out.1 bc
    have t1c := at_below H3.out.2.1 bc
    have t2c := at_below H3.out.2.2.1 bc
    have b4 : Below w.heap.size w Wc1 := H3.out.2.2.2.2.2.trans (bc.mono H3.out.2.2.2.2.2.size)
    have C4 := Lib.hid (HR.out Wc1 b4)
    unfold pv strV Rep.val at C4
    have sW3 : w3.heap.size < W3.heap.size := (Array.getElem?_eq_some_iff.1 q1).1
    have y0 := cellsAt p1c 0
    have y1 := cellsAt p1c 1
    have y2 := cellsAt p1c 2
    simp only [List.getElem?_toArray, List.getElem?_cons_zero, List.getElem?_cons_succ] at y0 y1 y2
    have H4 := Lib.hid (And.intro q1c (And.intro p1c (And.intro t1c (And.intro t2c (And.intro b4 (And.intro r1 m1))))))
    clear q1 q1c p1c t1c t2c b4 r1 m1 bc
    go_wp2_with (go_at_call 14; refine C4.out.mono ?_; rintro e w5 ⟨VA, VB, rfl, oA, oB, hb5⟩; obtain ⟨dta, dtc, rfl⟩ := Go.Proofs.YteibjmlimcpaoaaGreatDoor.W.own_slice oA; obtain ⟨dna, dnc, rfl⟩ := Go.Proofs.YteibjmlimcpaoaaGreatDoor.W.own_slice oB; refine Hid.out ?_)
    clear y0 y1 y2 C4
    obtain ⟨W5, hW5⟩ : ∃ W, w5.alloc (.cells #[.int .i64 r.kind, .slice dta r.lt.length dtc, .int .i64 r.hs, .int .i64 r.hf, .int .i64 r.hu, .int .i64 r.rs, .int .i64 r.rv, .int .i64 r.rb, .int .i64 r.nm, .slice dna r.ln.length dnc, .int .i64 r.cs, .int .i64 r.cf, .int .i64 r.cc] 39) = W := ⟨_, rfl⟩
    have g5 : Below w5.heap.size w5 W5 := by rw [← hW5]; exact below_alloc _ _
    have dd : RpAt Wc1.heap.size w5.heap.size r (.slice dta r.lt.length dtc) (.slice dna r.ln.length dnc) W5 := ⟨by rw [← hW5]; exact new_at _ _, own_any oA g5, own_any oB g5⟩
    have b45 : Below Wc1.heap.size Wc1 W5 := hb5.trans (g5.mono hb5.size)
    have b5 : Below w.heap.size w W5 := H4.out.2.2.2.2.1.trans (b45.mono H4.out.2.2.2.2.1.size)
    have r5 := H4.out.2.2.2.2.2.1.below b45
    have m5 := at_below H4.out.2.2.2.2.2.2 b45
    have q5 := at_below H4.out.1 b45
    have p5 := at_below H4.out.2.1 b45
    have t5 := at_below H4.out.2.2.1 b45
    have u5 := at_below H4.out.2.2.2.1 b45
    have sx : kk ≠ w5.heap.size := by have := (Array.getElem?_eq_some_iff.1 (H4.out.2.2.2.2.2.1.below hb5).h).1; omega
    have z45 : Wc1.heap.size ≤ W5.heap.size := b45.size
    clear hb5 g5 b45 oA oB H4
    have C5 := Lib.hid (sameR18 r.kind r.hs r.hf r.hu r.rs r.rv r.rb r.nm r.cs r.cf r.cc (.slice ta r.lt.length tc) (.slice na r.ln.length nc) (.slice dta r.lt.length dtc) (.slice dna r.ln.length dnc) r.lt r.ln W5 (by omega) (by omega) (rowOfOwn r5.oT) (rowOfOwn r5.oN) (rowOfOwn dd.oT) (rowOfOwn dd.oN))
    have x0 := cellsAt r5.h 0
    have x1 := cellsAt r5.h 1
    have x2 := cellsAt r5.h 2
    have x3 := cellsAt r5.h 3
    have x4 := cellsAt r5.h 4
    have x5 := cellsAt r5.h 5
    have x6 := cellsAt r5.h 6
    have x7 := cellsAt r5.h 7
    have x8 := cellsAt r5.h 8
    have x9 := cellsAt r5.h 9
    have x10 := cellsAt r5.h 10
    have x11 := cellsAt r5.h 11
    have x12 := cellsAt r5.h 12
    simp only [List.getElem?_toArray, List.getElem?_cons_zero, List.getElem?_cons_succ] at x0 x1 x2 x3 x4 x5 x6 x7 x8 x9 x10 x11 x12
    have z0 := cellsAt dd.h 0
    have z1 := cellsAt dd.h 1
    have z2 := cellsAt dd.h 2
    have z3 := cellsAt dd.h 3
    have z4 := cellsAt dd.h 4
    have z5 := cellsAt dd.h 5
    have z6 := cellsAt dd.h 6
    have z7 := cellsAt dd.h 7
    have z8 := cellsAt dd.h 8
    have z9 := cellsAt dd.h 9
    have z10 := cellsAt dd.h 10
    have z11 := cellsAt dd.h 11
    have z12 := cellsAt dd.h 12
    simp only [List.getElem?_toArray, List.getElem?_cons_zero, List.getElem?_cons_succ] at z0 z1 z2 z3 z4 z5 z6 z7 z8 z9 z10 z11 z12
    have H5 := Lib.hid (And.intro q5 (And.intro p5 (And.intro t5 (And.intro u5 (And.intro b5 (And.intro r5 (And.intro dd m5)))))))
    clear q5 p5 t5 u5 b5 r5 dd m5
    refine Lib.hid ?_
    go_wp2_with (go_at_call 15; refine C5.out.mono ?_; rintro e w6 ⟨rfl, hb6⟩; refine Hid.out ?_)
    clear hW5 C5 x0 z0 x1 z1 x2 z2 x3 z3 x4 z4 x5 z5 x6 z6 x7 z7 x8 z8 x9 z9 x10 z10 x11 z11 x12 z12
    have q6 := at_below H5.out.1 hb6
    have p6 := at_below H5.out.2.1 hb6
    have t6 := at_below H5.out.2.2.1 hb6
    have u6 := at_below H5.out.2.2.2.1 hb6
    have b6 : Below w.heap.size w w6 := H5.out.2.2.2.2.1.trans (hb6.mono H5.out.2.2.2.2.1.size)
    have r6 := H5.out.2.2.2.2.2.1.below hb6
    have d6 := H5.out.2.2.2.2.2.2.1.below hb6
    have m6 := at_below H5.out.2.2.2.2.2.2.2 hb6
    have z56 : W5.heap.size ≤ w6.heap.size := hb6.size
    have C6 := Lib.hid (keptP P (.slice pa P.tags.length pcc) (.slice ia P.ids.length ic) w6 (HP.out.on b6) hlt hln gt gn ct cn hgg t6 H3.out.2.2.2.1 u6 H3.out.2.2.2.2.1)
    unfold pv at C6
    have y0 := cellsAt q6 0
    have y1 := cellsAt q6 1
    have y2 := cellsAt q6 2
    simp only [List.getElem?_toArray, List.getElem?_cons_zero, List.getElem?_cons_succ] at y0 y1 y2
    have z0 := cellsAt p6 0
    have z1 := cellsAt p6 1
    have z2 := cellsAt p6 2
    simp only [List.getElem?_toArray, List.getElem?_cons_zero, List.getElem?_cons_succ] at z0 z1 z2
    have H6 := Lib.hid (And.intro q6 (And.intro p6 (And.intro t6 (And.intro u6 (And.intro b6 (And.intro r6 (And.intro d6 m6)))))))
    clear q6 p6 t6 u6 b6 r6 d6 m6 hb6 H5 H3
    refine Lib.hid ?_
    go_wp2_with (go_at_call 16; refine C6.out.mono ?_; rintro e w7 ⟨rfl, wm, gA, gB⟩; refine Hid.out ?_)
    clear y0 y1 y2 z0 z1 z2 C6
    obtain ⟨q6, p6, t6, u6, b6, r6, d6, m6⟩ := H6.out
    have um := Go.Proofs.YteibjmlimcpaoaaGreatDoor.W.grown_at gA u6 (by omega)
    have p7 := Go.Proofs.YteibjmlimcpaoaaGreatDoor.W.grown_at gB (Go.Proofs.YteibjmlimcpaoaaGreatDoor.W.grown_at gA p6 (by omega)) (by omega)
    have r7 := (r6.grown gA t6 (by decide) (by decide) (by decide)).grown gB um (by decide) (by decide) (by decide)
    have d7 := (d6.grown gA t6 (by decide) (by decide) (by decide)).grown gB um (by decide) (by decide) (by decide)
    have m7 := Go.Proofs.YteibjmlimcpaoaaGreatDoor.W.grown_at gB (Go.Proofs.YteibjmlimcpaoaaGreatDoor.W.grown_at gA m6 (by omega)) (by omega)
    have bm := b6.grown gA b6.size (fun j hj => by cases hj; omega)
    have b7 := bm.grown gB bm.size (fun j hj => by cases hj; omega)
    have z67 : w6.heap.size ≤ w7.heap.size := Nat.le_trans gA.size gB.size
    clear q6 p6 t6 u6 b6 r6 d6 m6 um bm gA gB H6
    have C7 := Lib.hid (leastV r dta dna dtc dnc w7 (by omega) (by omega) (rowOfOwn d7.oT))
    have z0 := cellsAt d7.h 0
    have z1 := cellsAt d7.h 1
    have z2 := cellsAt d7.h 2
    have z3 := cellsAt d7.h 3
    have z4 := cellsAt d7.h 4
    have z5 := cellsAt d7.h 5
    have z6 := cellsAt d7.h 6
    have z7 := cellsAt d7.h 7
    have z8 := cellsAt d7.h 8
    have z9 := cellsAt d7.h 9
    have z10 := cellsAt d7.h 10
    have z11 := cellsAt d7.h 11
    have z12 := cellsAt d7.h 12
    simp only [List.getElem?_toArray, List.getElem?_cons_zero, List.getElem?_cons_succ] at z0 z1 z2 z3 z4 z5 z6 z7 z8 z9 z10 z11 z12
    have H7 := Lib.hid (And.intro p7 (And.intro b7 (And.intro r7 (And.intro d7 m7))))
    clear p7 b7 r7 d7 m7
    refine Lib.hid ?_
    go_wp2_with (go_at_call 17; refine C7.out.mono ?_; rintro e w8 ⟨rfl, hb8⟩; refine Hid.out ?_)
    clear C7 z0 z1 z2 z3 z4 z5 z6 z7 z8 z9 z10 z11 z12
    obtain ⟨W8, hW8⟩ : ∃ W, w8.alloc (.cells #[.slice none 0 0, .slice none 0 0, .slice none 0 0, .slice none 0 0, .slice none 0 0, .slice none 0 0, .int .i64 0] 56) = W := ⟨_, rfl⟩
    have g8 : Below w8.heap.size w8 W8 := by rw [← hW8]; exact below_alloc _ _
    have b78 : Below w7.heap.size w7 W8 := hb8.trans (g8.mono hb8.size)
    have b8 := H7.out.2.1.trans (b78.mono H7.out.2.1.size)
    have k8 : BookIs w.heap.size w8.heap.size [] 0 W8 := ⟨by have := (H7.out.2.1.trans (hb8.mono H7.out.2.1.size)).size; exact this, _, _, _, by rw [← hW8]; exact new_at _ _, World.ownsRow_nil _ _ _ _, World.ownsRow_nil _ _ _ _, World.ownsRow_nil _ _ _ _, fun e he => by cases he⟩
    have p8 := at_below H7.out.1 b78
    have r8 := H7.out.2.2.1.below b78
    have d8 := H7.out.2.2.2.1.below b78
    have m8 := at_below H7.out.2.2.2.2 b78
    have CI := Lib.hid (fun (x : World) (h : Below W8.heap.size W8 x) => HI.out _ _ x (b8.trans (h.mono b8.size)) ((HP.out.on b8).on h))
    unfold pv strV Rep.val at CI
    have y0 := cellsAt p8 0
    have y1 := cellsAt p8 1
    have y2 := cellsAt p8 2
    simp only [List.getElem?_toArray, List.getElem?_cons_zero, List.getElem?_cons_succ] at y0 y1 y2
    have H8 := Lib.hid (And.intro b8 (And.intro k8 (And.intro r8 (And.intro d8 m8))))
    have z78 : w7.heap.size ≤ W8.heap.size := b78.size
    have sE : w.heap.size ≤ W8.heap.size := b8.size
    have lD : Hid ((∀ k, (Value.slice dta r.lt.length dtc).ownBlock = some k → Wc1.heap.size ≤ k ∧ k < W8.heap.size) ∧ (∀ k, (Value.slice dna r.ln.length dnc).ownBlock = some k → Wc1.heap.size ≤ k ∧ k < W8.heap.size)) := Lib.hid ⟨fun k hk => H8.out.2.2.2.1.oT.lt k hk, fun k hk => H8.out.2.2.2.1.oN.lt k hk⟩
    clear b8 k8 r8 d8 m8 b78 g8 hb8 H7
    refine Lib.hid ?_
    go_upto_region 9 with fail
    go_cut [16, 17, 18] (fun s1 s2 s3 wx => ∃ (kk jj : Nat) (ta na : Option Addr) (tc nc : Nat), s1 = .pointer (some ⟨kk, 0, none⟩) ∧ s2 = .pointer (some ⟨jj, 0, none⟩) ∧ s3 = .int .i64 er ∧ Below W8.heap.size W8 wx ∧ W8.heap.size ≤ kk ∧ W8.heap.size ≤ jj ∧ RpAt W8.heap.size kk r (.slice ta r.lt.length tc) (.slice na r.ln.length nc) wx ∧ wx.heap[jj]? = some (.cells #[.int .i64 (st : Int), .int .i64 (rd : Int)] 41 (0, 0)))
    case first =>
      refine reg9 ln1 ln2 p8 CE CI ?_
      rintro a' w' ⟨v53, v54, v55, v56, v57, v58, v59, v60, v61, u1, u2, u3, hrel, rfl⟩
      go_wp2_with fail
      go_meet
      exact hrel
    case rest =>
      obtain ⟨kk2, jj2, eta, ena, etc, enc, rfl, rfl, rfl, bc2, lk2, lj2, e9, n9⟩ := hcut
      obtain ⟨Wc2, hWc2⟩ : ∃ W, W = wc := ⟨_, rfl⟩
      subst hWc2
      clear y0 y1 y2 CI hW8
      have lE : Hid ((∀ k, (Value.slice eta r.lt.length etc).ownBlock = some k → W8.heap.size ≤ k ∧ k < Wc2.heap.size) ∧ (∀ k, (Value.slice ena r.ln.length enc).ownBlock = some k → W8.heap.size ≤ k ∧ k < Wc2.heap.size)) := Lib.hid ⟨fun k hk => e9.oT.lt k hk, fun k hk => e9.oN.lt k hk⟩
      have b9 : Below w.heap.size w Wc2 := H8.out.1.trans (bc2.mono H8.out.1.size)
      have k9 := BookIs.belowV H8.out.2.1 bc2
      have r9 := H8.out.2.2.1.below bc2
      have d9 := H8.out.2.2.2.1.below bc2
      have m9 := at_below H8.out.2.2.2.2 bc2
      have p9 := at_below p8 bc2
      have z8c : W8.heap.size ≤ Wc2.heap.size := bc2.size
      have s8 : w.heap.size ≤ W3.heap.size := by omega
      have C9 := Lib.hid (brep19 w.heap.size w8.heap.size 0 [] r (.slice ta r.lt.length tc) (.slice na r.ln.length nc) Wc2 b9.size (by omega) (by simp) ln1 ln2 k9 (Go.Proofs.YteibjmlimcpaoaaGreatDoor.W.own_lower r9.oT s8) (Go.Proofs.YteibjmlimcpaoaaGreatDoor.W.own_lower r9.oN s8) (fun e he => by cases he) (fun e he => by cases he))
      unfold Rep.val at C9
      obtain ⟨cs9, hbb9⟩ := BookIs.box k9
      have x0 := cellsAt r9.h 0
      have x1 := cellsAt r9.h 1
      have x2 := cellsAt r9.h 2
      have x3 := cellsAt r9.h 3
      have x4 := cellsAt r9.h 4
      have x5 := cellsAt r9.h 5
      have x6 := cellsAt r9.h 6
      have x7 := cellsAt r9.h 7
      have x8 := cellsAt r9.h 8
      have x9 := cellsAt r9.h 9
      have x10 := cellsAt r9.h 10
      have x11 := cellsAt r9.h 11
      have x12 := cellsAt r9.h 12
      simp only [List.getElem?_toArray, List.getElem?_cons_zero, List.getElem?_cons_succ] at x0 x1 x2 x3 x4 x5 x6 x7 x8 x9 x10 x11 x12
      have H9 := Lib.hid (And.intro b9 (And.intro r9 (And.intro d9 (And.intro m9 (And.intro p9 (And.intro e9 (And.intro n9 hbb9)))))))
      clear b9 r9 d9 m9 p9 e9 n9 hbb9 k9 bc2 p8 H8
      go_wp2_with (go_at_call 18; refine C9.out.mono ?_; rintro e w10 ⟨rfl, hbB, fr, new1, hl1, bk1, hc1⟩; refine Hid.out ?_)
      clear C9 x0 x1 x2 x3 x4 x5 x6 x7 x8 x9 x10 x11 x12
      obtain ⟨b9, r9, d9, m9, p9, e9, n9, hbb9⟩ := H9.out
      have d10 := d9.fr fr hbb9 kk r9 (ne_above Wc1.heap.size (fun k hk => (lD.out.1 k hk).1) lT1.out.1) (ne_above Wc1.heap.size (fun k hk => (lD.out.2 k hk).1) lT1.out.2)
      have e10 := e9.fr fr hbb9 kk r9 (ne_above W8.heap.size (fun k hk => (lE.out.1 k hk).1) (fun k hk => by have := lT1.out.1 k hk; omega)) (ne_above W8.heap.size (fun k hk => (lE.out.2 k hk).1) (fun k hk => by have := lT1.out.2 k hk; omega))
      have m10 := fr_cell fr hbb9 r9 m9 (by decide)
      have n10 := fr_cell fr hbb9 r9 n9 (by decide)
      have p10 := fr_cell fr hbb9 r9 p9 (by decide)
      have b10 : Below w.heap.size w w10 := b9.trans hbB
      have z9a : Wc2.heap.size ≤ w10.heap.size := hbB.size
      rw [List.nil_append] at bk1
      clear b9 r9 d9 m9 p9 e9 n9 hbb9 fr hbB H9
      have C10 := Lib.hid (sameR18 r.kind r.hs r.hf r.hu r.rs r.rv r.rb r.nm r.cs r.cf r.cc (.slice eta r.lt.length etc) (.slice ena r.ln.length enc) (.slice dta r.lt.length dtc) (.slice dna r.ln.length dnc) r.lt r.ln w10 (by omega) (by omega) (rowOfOwn e10.oT) (rowOfOwn e10.oN) (rowOfOwn d10.oT) (rowOfOwn d10.oN))
      have x0 := cellsAt e10.h 0
      have x1 := cellsAt e10.h 1
      have x2 := cellsAt e10.h 2
      have x3 := cellsAt e10.h 3
      have x4 := cellsAt e10.h 4
      have x5 := cellsAt e10.h 5
      have x6 := cellsAt e10.h 6
      have x7 := cellsAt e10.h 7
      have x8 := cellsAt e10.h 8
      have x9 := cellsAt e10.h 9
      have x10 := cellsAt e10.h 10
      have x11 := cellsAt e10.h 11
      have x12 := cellsAt e10.h 12
      simp only [List.getElem?_toArray, List.getElem?_cons_zero, List.getElem?_cons_succ] at x0 x1 x2 x3 x4 x5 x6 x7 x8 x9 x10 x11 x12
      have z0 := cellsAt d10.h 0
      have z1 := cellsAt d10.h 1
      have z2 := cellsAt d10.h 2
      have z3 := cellsAt d10.h 3
      have z4 := cellsAt d10.h 4
      have z5 := cellsAt d10.h 5
      have z6 := cellsAt d10.h 6
      have z7 := cellsAt d10.h 7
      have z8 := cellsAt d10.h 8
      have z9 := cellsAt d10.h 9
      have z10 := cellsAt d10.h 10
      have z11 := cellsAt d10.h 11
      have z12 := cellsAt d10.h 12
      simp only [List.getElem?_toArray, List.getElem?_cons_zero, List.getElem?_cons_succ] at z0 z1 z2 z3 z4 z5 z6 z7 z8 z9 z10 z11 z12
      have H10 := Lib.hid (And.intro b10 (And.intro d10 (And.intro e10 (And.intro m10 (And.intro n10 (And.intro p10 (And.intro bk1 (And.intro hl1 hc1))))))))
      clear b10 d10 e10 m10 n10 p10 bk1 hl1 hc1
      refine Lib.hid ?_
      go_wp2_with (go_at_call 15; refine C10.out.mono ?_; rintro e w11 ⟨rfl, hb11⟩; refine Hid.out ?_)
      clear C10 x0 z0 x1 z1 x2 z2 x3 z3 x4 z4 x5 z5 x6 z6 x7 z7 x8 z8 x9 z9 x10 z10 x11 z11 x12 z12
      obtain ⟨b10, d10, e10, m10, n10, p10, bk1, hl1, hc1⟩ := H10.out
      have b11 := b10.trans (hb11.mono b10.size)
      have d11 := d10.below hb11
      have e11 := e10.below hb11
      have m11 := at_below m10 hb11
      have n11 := at_below n10 hb11
      have p11 := at_below p10 hb11
      have k11 := BookIs.belowV bk1 hb11
      have C11 := Lib.hid (brep19 w.heap.size w8.heap.size 1 new1 r (.slice eta r.lt.length etc) (.slice ena r.ln.length enc) w11 b11.size (by omega) (by omega) ln1 ln2 k11 (Go.Proofs.YteibjmlimcpaoaaGreatDoor.W.own_lower e11.oT sE) (Go.Proofs.YteibjmlimcpaoaaGreatDoor.W.own_lower e11.oN sE) (fun e he => by
        rcases (hc1 e he).2.1 with h | h | ⟨k, h, h2⟩
        · rw [h]; cases hq : (Value.slice eta r.lt.length etc).ownBlock with | none => exact .inl rfl | some q => exact .inr (by simp)
        · rw [h]; cases hq : (Value.slice eta r.lt.length etc).ownBlock with | none => exact .inl rfl | some q => exact .inr (fun e2 => by have := lT1.out.1 q e2; have := (lE.out.1 q hq).1; omega)
        · rw [h]; cases hq : (Value.slice eta r.lt.length etc).ownBlock with | none => exact .inl rfl | some q => exact .inr (fun e2 => by cases e2; have := (lE.out.1 k hq).2; omega)) (fun e he => by
        rcases (hc1 e he).2.2 with h | h | ⟨k, h, h2⟩
        · rw [h]; cases hq : (Value.slice ena r.ln.length enc).ownBlock with | none => exact .inl rfl | some q => exact .inr (by simp)
        · rw [h]; cases hq : (Value.slice ena r.ln.length enc).ownBlock with | none => exact .inl rfl | some q => exact .inr (fun e2 => by have := lT1.out.2 q e2; have := (lE.out.2 q hq).1; omega)
        · rw [h]; cases hq : (Value.slice ena r.ln.length enc).ownBlock with | none => exact .inl rfl | some q => exact .inr (fun e2 => by cases e2; have := (lE.out.2 k hq).2; omega)))
      unfold Rep.val at C11
      obtain ⟨cs11, hbb11⟩ := BookIs.box k11
      have x0 := cellsAt e11.h 0
      have x1 := cellsAt e11.h 1
      have x2 := cellsAt e11.h 2
      have x3 := cellsAt e11.h 3
      have x4 := cellsAt e11.h 4
      have x5 := cellsAt e11.h 5
      have x6 := cellsAt e11.h 6
      have x7 := cellsAt e11.h 7
      have x8 := cellsAt e11.h 8
      have x9 := cellsAt e11.h 9
      have x10 := cellsAt e11.h 10
      have x11 := cellsAt e11.h 11
      have x12 := cellsAt e11.h 12
      simp only [List.getElem?_toArray, List.getElem?_cons_zero, List.getElem?_cons_succ] at x0 x1 x2 x3 x4 x5 x6 x7 x8 x9 x10 x11 x12
      have hq1 : Hid (∀ e ∈ new1, e.q ≤ 2) := Lib.hid (fun e he => by have := (hc1 e he).1; omega)
      have hl1' : Hid (new1.length = 4) := Lib.hid hl1
      have H11 := Lib.hid (And.intro b11 (And.intro d11 (And.intro e11 (And.intro m11 (And.intro n11 (And.intro p11 hbb11))))))
      clear b11 d11 e11 m11 n11 p11 hbb11 k11 b10 d10 e10 m10 n10 p10 bk1 hl1 hc1 hb11 H10
      refine Lib.hid ?_
      go_wp2_with (go_at_call 18; refine C11.out.mono ?_; rintro e w12 ⟨rfl, hbB, fr, new2, hl2, bk2, hc2⟩; refine Hid.out ?_)
      clear C11 x0 x1 x2 x3 x4 x5 x6 x7 x8 x9 x10 x11 x12
      obtain ⟨b11, d11, e11, m11, n11, p11, hbb11⟩ := H11.out
      have d12 := d11.fr fr hbb11 kk2 e11 (ne_below W8.heap.size (fun k hk => (lD.out.1 k hk).2) (fun k hk => (lE.out.1 k hk).1)) (ne_below W8.heap.size (fun k hk => (lD.out.2 k hk).2) (fun k hk => (lE.out.2 k hk).1))
      have m12 := fr_cell fr hbb11 e11 m11 (by decide)
      have n12 := fr_cell fr hbb11 e11 n11 (by decide)
      have p12 := fr_cell fr hbb11 e11 p11 (by decide)
      have b12 : Below w.heap.size w w12 := b11.trans hbB
      have hq2 : Hid (∀ e ∈ new1 ++ new2, e.q ≤ 5864062014640) := Lib.hid (fun e he => by
        rcases List.mem_append.1 he with he | he
        · have := hq1.out e he; omega
        · have := (hc2 e he).1; omega)
      have hl12 : Hid ((new1 ++ new2).length ≤ 100000) := Lib.hid (by rw [List.length_append, hl1'.out, hl2]; omega)
      clear b11 d11 e11 m11 n11 p11 hbb11 fr hbB H11 hl2 hc2 hq1 hl1' lE lD lT1
      have CI := Lib.hid (fun (x : World) (h : Below w12.heap.size w12 x) => HI.out _ _ x (b12.trans (h.mono b12.size)) ((HP.out.on b12).on h))
      unfold pv strV Rep.val at CI
      have y0 := cellsAt p12 0
      have y1 := cellsAt p12 1
      have y2 := cellsAt p12 2
      simp only [List.getElem?_toArray, List.getElem?_cons_zero, List.getElem?_cons_succ] at y0 y1 y2
      have H12 := Lib.hid (And.intro b12 (And.intro d12 (And.intro m12 (And.intro n12 bk2))))
      clear b12 d12 m12 n12 bk2
      refine Lib.hid ?_
      go_upto_region 13 with fail
      go_cut [20, 21, 22] (fun s1 s2 s3 wx => ∃ (kk jj : Nat) (ta na : Option Addr) (tc nc : Nat), s1 = .pointer (some ⟨kk, 0, none⟩) ∧ s2 = .pointer (some ⟨jj, 0, none⟩) ∧ s3 = .int .i64 er ∧ Below w12.heap.size w12 wx ∧ w12.heap.size ≤ kk ∧ w12.heap.size ≤ jj ∧ RpAt w12.heap.size kk r (.slice ta r.lt.length tc) (.slice na r.ln.length nc) wx ∧ wx.heap[jj]? = some (.cells #[.int .i64 (st : Int), .int .i64 (rd : Int)] 41 (0, 0)))
      case first =>
        refine reg13 ln1 ln2 p12 CE CI ?_
        rintro a' w' ⟨v71, v72, v73, v74, v75, v76, v77, v78, v79, u1, u2, u3, hrel, rfl⟩
        go_wp2_with fail
        go_meet
        exact hrel
      case rest =>
        obtain ⟨kk3, jj3, fta, fna, ftc, fnc, rfl, rfl, rfl, bc3, lk3, lj3, f13, o13⟩ := hcut
        obtain ⟨Wc3, hWc3⟩ : ∃ W, W = wc := ⟨_, rfl⟩
        subst hWc3
        clear y0 y1 y2 CI
        have b13 := H12.out.1.trans (bc3.mono H12.out.1.size)
        have d13 := H12.out.2.1.below bc3
        have m13 := at_below H12.out.2.2.1 bc3
        have n13 := at_below H12.out.2.2.2.1 bc3
        have k13 := BookIs.belowV H12.out.2.2.2.2 bc3
        have C13 := Lib.hid (sameR18 r.kind r.hs r.hf r.hu r.rs r.rv r.rb r.nm r.cs r.cf r.cc (.slice fta r.lt.length ftc) (.slice fna r.ln.length fnc) (.slice dta r.lt.length dtc) (.slice dna r.ln.length dnc) r.lt r.ln Wc3 (by omega) (by omega) (rowOfOwn f13.oT) (rowOfOwn f13.oN) (rowOfOwn d13.oT) (rowOfOwn d13.oN))
        have x0 := cellsAt f13.h 0
        have x1 := cellsAt f13.h 1
        have x2 := cellsAt f13.h 2
        have x3 := cellsAt f13.h 3
        have x4 := cellsAt f13.h 4
        have x5 := cellsAt f13.h 5
        have x6 := cellsAt f13.h 6
        have x7 := cellsAt f13.h 7
        have x8 := cellsAt f13.h 8
        have x9 := cellsAt f13.h 9
        have x10 := cellsAt f13.h 10
        have x11 := cellsAt f13.h 11
        have x12 := cellsAt f13.h 12
        simp only [List.getElem?_toArray, List.getElem?_cons_zero, List.getElem?_cons_succ] at x0 x1 x2 x3 x4 x5 x6 x7 x8 x9 x10 x11 x12
        have z0 := cellsAt d13.h 0
        have z1 := cellsAt d13.h 1
        have z2 := cellsAt d13.h 2
        have z3 := cellsAt d13.h 3
        have z4 := cellsAt d13.h 4
        have z5 := cellsAt d13.h 5
        have z6 := cellsAt d13.h 6
        have z7 := cellsAt d13.h 7
        have z8 := cellsAt d13.h 8
        have z9 := cellsAt d13.h 9
        have z10 := cellsAt d13.h 10
        have z11 := cellsAt d13.h 11
        have z12 := cellsAt d13.h 12
        simp only [List.getElem?_toArray, List.getElem?_cons_zero, List.getElem?_cons_succ] at z0 z1 z2 z3 z4 z5 z6 z7 z8 z9 z10 z11 z12
        have H13 := Lib.hid (And.intro b13 (And.intro m13 (And.intro n13 k13)))
        clear b13 m13 n13 k13 d13 f13 o13 bc3 H12 p12
        go_wp2_with (go_at_call 15; refine C13.out.mono ?_; rintro e w14 ⟨rfl, hb14⟩; refine Hid.out ?_)
        clear C13 x0 z0 x1 z1 x2 z2 x3 z3 x4 z4 x5 z5 x6 z6 x7 z7 x8 z8 x9 z9 x10 z10 x11 z11 x12 z12
        have b14 := H13.out.1.trans (hb14.mono H13.out.1.size)
        have m14 := at_below H13.out.2.1 hb14
        have n14 := at_below H13.out.2.2.1 hb14
        have C14 := Lib.hid (still20 w.heap.size w8.heap.size 2 (new1 ++ new2) w14 (by have := hl12.out; omega) hq2.out (BookIs.belowV H13.out.2.2.2 hb14))
        have H14 := Lib.hid (And.intro b14 (And.intro m14 n14))
        clear b14 m14 n14 hb14 H13
        refine Lib.hid ?_
        go_wp2_with (go_at_call 19; refine C14.out.mono ?_; rintro e w15 ⟨rfl, hb15⟩; refine Hid.out ?_)
        have b15 := H14.out.1.trans (hb15.mono H14.out.1.size)
        have m15 := at_below H14.out.2.1 hb15
        have n15 := at_below H14.out.2.2 hb15
        have x0 := cellsAt m15 0
        have x1 := cellsAt m15 1
        have z0 := cellsAt n15 0
        have z1 := cellsAt n15 1
        simp only [List.getElem?_toArray, List.getElem?_cons_zero, List.getElem?_cons_succ] at x0 x1 z0 z1
        clear m15 n15 hb15 H14 C14 hq2 hl12
        obtain ⟨hok, hno⟩ := HF.out
        have e0 : (er == er) = true := by simp
        by_cases he : er = 0
        · obtain ⟨h1, h2, h3⟩ := hok he
          subst he
          have c2 : decide ((st : Int) ≤ b) = true := decide_eq_true h1
          have c3 : decide ((leastR r : Int) ≤ (rd : Int)) = true := decide_eq_true (by omega)
          have c3' : decide (leastR r ≤ rd) = true := decide_eq_true h2
          have w8t : IntKind.i64.wrap (8 * (st : Int)) = 8 * (st : Int) := by rw [IntKind.wrap_i64]; omega
          have c4 : decide ((rd : Int) ≤ 8 * (st : Int)) = true := decide_eq_true (by omega)
          clear hok hno HF
          refine Lib.hid ?_
          go_wp2_with fail
          go_quiet (first | (go_at_call 13; refine Calls.quiet_of_same (CE.out _)))
          go_wp2
          go_ret
          exact ⟨rfl, Go.Proofs.YteibjmlimcpaoaaGreatDoor.V.below_draws b15 nq⟩
        · obtain ⟨h1, h2⟩ := hno he
          subst h1 h2
          have c1 : decide (er = 0) = false := decide_eq_false he
          have c1' : (er == 0) = false := beq_eq_false_iff_ne.2 he
          have c5 : (er != 0) = true := bne_iff_ne.2 he
          clear hok hno HF
          refine Lib.hid ?_
          go_wp2_with fail
          go_quiet (fail)
          go_wp2
          go_ret
          refine ⟨?_, Go.Proofs.YteibjmlimcpaoaaGreatDoor.V.below_draws b15 nq⟩
          first | rfl | exact retB c5
end Go.Proofs.YteibjmlimcpaoaaGreatDoor.V
