/-
  The law All answers true, and leaves alone what lay in memory.
-/
import Derived.Test.YteibjmlimcpaoaaGreatDoorLAp
import Derived.Deep.CutBlock
set_option linter.unusedVariables false
set_option linter.unusedSimpArgs false
namespace Go.Proofs.YteibjmlimcpaoaaGreatDoor.V
open Go.RowKit Go.Sort
open Go.Proofs.YteibjmlimcpaoaaGreatDoor.W (at_below at_alloc new_at below_alloc PolIs pv strV Gl cell_lt inspectW sinspectW newW RowIs Ok1 ocells ocells_at OkOk)

theorem infoSes : (Tryz.prog.info? 27).map (fun i => (i.zero, i.size, i.bytes)) = some (some (.pointer none), 1, 8) := by kernel_rfl
def SesOk (ss : List Value) : Prop := ∀ s ∈ ss, s = .pointer none ∨ ∃ sp : Addr, s = .pointer (some sp)
/-- what the loop carries -/
structure AS (w : World) (bb k : Nat) (ss : List Value) (V : Value) (es : List Ent) (wr : World) : Prop where
  bw : Below w.heap.size w wr
  oS : wr.ownsRow w.heap.size 27 1 V ss.length ss
  bk : BookIs w.heap.size bb es k wr
theorem AS.below {w : World} {bb k : Nat} {ss : List Value} {V : Value} {es : List Ent} {wr wx : World} (h : AS w bb k ss V es wr) (hb : Below wr.heap.size wr wx) : AS w bb k ss V es wx :=
  ⟨h.bw.trans (hb.mono h.bw.size), own_any h.oS hb, BookIs.belowV h.bk hb⟩

theorem AS.push {w : World} {bb k : Nat} {ss : List Value} {V v' x : Value} {es : List Ent} {wa w3 : World} (h : AS w bb k ss V es wa) (gr : wa.grownBy w3 V.ownBlock) (o : w3.ownsRow w.heap.size 27 1 v' (ss.length + 1) (ss ++ [x])) : AS w bb k (ss ++ [x]) v' es w3 := by
  have key : ∀ (j : Nat) (cs : Array Value) (T : TypeId) (fz : Nat × Nat), wa.heap[j]? = some (.cells cs T fz) → T ≠ 27 → w3.heap[j]? = some (.cells cs T fz) := by
    intro j cs T fz hj hT
    rw [gr.block j (Array.getElem?_eq_some_iff.1 hj).1 (fun e => own_kind_ne' h.oS hj hT e.symm)]
    exact hj
  have row : ∀ {B e size n : Nat} {v : Value} {xs : List Value}, wa.ownsRow B e size v n xs → e ≠ 27 → w3.ownsRow B e size v n xs := by
    intro B e size n v xs ho he
    refine ho.kept gr ?_
    cases hv : V.ownBlock with
    | none => cases v.ownBlock <;> simp
    | some j =>
      obtain ⟨c, fz, h2⟩ := Lib.ownsRow_kind h.oS j hv
      exact .inr (own_kind_ne' ho h2 (fun q => he q.symm))
  refine ⟨h.bw.grown gr h.bw.size (fun j hj => (h.oS.lt j hj).1), by rw [List.length_append]; exact o, ?_⟩
  obtain ⟨hB, VT, VN, VO, hq, o28, o33, o3, hes⟩ := h.bk
  exact ⟨hB, VT, VN, VO, key _ _ _ _ hq (by decide), row o28 (by decide), row o33 (by decide), row o3 (by decide), fun e he => ⟨row (hes e he).1 (by decide), row (hes e he).2 (by decide)⟩⟩
theorem AS.cell {w : World} {bb k : Nat} {ss : List Value} {V : Value} {es : List Ent} {wa w3 : World} {j : Nat} {cs : Array Value} {T : TypeId} {fz : Nat × Nat} (h : AS w bb k ss V es wa) (gr : wa.grownBy w3 V.ownBlock) (hj : wa.heap[j]? = some (.cells cs T fz)) (hT : T ≠ 27) : w3.heap[j]? = some (.cells cs T fz) := by
  rw [gr.block j (Array.getElem?_eq_some_iff.1 hj).1 (fun e => own_kind_ne' h.oS hj hT e.symm)]
  exact hj
theorem lent_isA {P : Pol} {gt gn : Nat} {ct cn : Array Value} {w : World} {T I : Value} (hp : PolIs P T I w) (hgt : w.heap[gt]? = some (.cells ct 9 (0, 0))) (hct : ct.toList = Go.Proofs.YteibjmlimcpaoaaGreatDoor.W.scells (P.tags ++ List.replicate 8 beyond)) (hgn : w.heap[gn]? = some (.cells cn 3 (0, 0))) (hcn : cn.toList = Go.Proofs.YteibjmlimcpaoaaGreatDoor.W.icells (P.ids ++ List.replicate 8 (-77))) :
    PolIs P (.slice (some ⟨gt, 0, none⟩) P.tags.length (P.tags.length + 8)) (.slice (some ⟨gn, 0, none⟩) P.ids.length (P.ids.length + 8)) w :=
  ⟨rowOfBlock hgt (by rw [hct]; unfold Go.Proofs.YteibjmlimcpaoaaGreatDoor.W.scells; rw [List.map_append]) (by simp [Go.Proofs.YteibjmlimcpaoaaGreatDoor.W.scells]), rowOfBlock hgn (by rw [hcn]; unfold Go.Proofs.YteibjmlimcpaoaaGreatDoor.W.icells; rw [List.map_append]) (by simp [Go.Proofs.YteibjmlimcpaoaaGreatDoor.W.icells]), hp.nt, hp.ni, hp.ts⟩
/-- a session or none, asked -/
theorem sinspAny (s : Value) (hs : s = .pointer none ∨ ∃ sp : Addr, s = .pointer (some sp)) (P : Pol) (D : List UInt8) (b : Int) (r : Rep) (st rd : Nat) (er : Int) (hin : inspOf P D b = (r, (st, rd), er)) :
    ∃ (R : Rep) (St Rd : Nat) (Er : Int), ((s = .pointer none ∧ R = Rep.none ∧ St = 0 ∧ Rd = 0 ∧ Er = 1) ∨ ((∃ sp : Addr, s = .pointer (some sp)) ∧ R = r ∧ St = st ∧ Rd = rd ∧ Er = er)) ∧
      ∀ (T I : Value) (x : World), D.length ≤ 9223372036854775807 → b ≤ 9223372036854775807 → PolIs P T I x → Gl x → x.cell? ⟨7, 15, none⟩ = some (.int .u8 4) →
        Calls Tryz.prog 30 #[s, pv T I P.text, strV D, .int .i64 b] x fun e w' => ∃ VA VB, e = .returned (.tuple #[R.val VA VB, .agg #[.int .i64 (St : Int), .int .i64 (Rd : Int)], .int .i64 Er]) ∧ w'.ownsRow x.heap.size 74 3 VA R.lt.length (tcells R.lt) ∧ w'.ownsRow x.heap.size 72 7 VB R.ln.length (ncells R.ln) ∧ Below x.heap.size x w' := by
  rcases hs with rfl | ⟨sp, rfl⟩
  · refine ⟨Rep.none, 0, 0, 1, .inl ⟨rfl, rfl, rfl, rfl, rfl⟩, fun T I x hD hb hp hg ht => ?_⟩
    refine (sinspectNil P T I D b x hp).mono ?_
    rintro e w' ⟨rfl, hb⟩
    exact ⟨.slice none 0 0, .slice none 0 0, rfl, World.ownsRow_nil _ _ _ _, World.ownsRow_nil _ _ _ _, hb⟩
  · exact ⟨r, st, rd, er, .inr ⟨⟨sp, rfl⟩, rfl, rfl, rfl, rfl⟩, fun T I x hD hb hp hg ht => sinspectW sp P T I D b x hD hb hp hg ht r st rd er hin⟩
theorem insp_len_any (P : Pol) (D : List UInt8) (b : Int) (r : Rep) (st rd : Nat) (er : Int) (h : inspOf P D b = (r, (st, rd), er)) : r.lt.length ≤ 16 ∧ r.ln.length ≤ 20 := by
  have := insp_len P D b
  rw [h] at this
  exact this

/-- the report and the meter of no session: all noughts -/
theorem finNil {w W : World} {bb k B B' kr km ko kn kd : Nat} {ss : List Value} {V : Value} {es : List Ent} {R wr0 : Rep} {T N Td Nd : Value} {a b c d : Value} {oc : Array Value} (h : AS w bb k ss V es W) (r8 : RpAt B kr R T N W) (m8 : W.heap[km]? = some (.cells #[a, b] 41 (0, 0))) (o8 : W.heap[ko]? = some (.cells oc 83 (0, 0))) (n8 : W.heap[kn]? = some (.cells #[c, d] 41 (0, 0))) (dd : RpAt B' kd wr0 Td Nd W)
    (h1 : kr ≠ kd) (h2 : km ≠ kn) (h3 : w.heap.size ≤ kn) (h4 : w.heap.size ≤ kd) (h5 : kn ≠ kd) (h6 : B' ≤ kd) :
    let W2 := setAll (setAll W kn 0 [.int .i64 0, .int .i64 0]) kd 0 [.int .i64 0, .slice none 0 0, .int .i64 0, .int .i64 0, .int .i64 0, .int .i64 0, .int .i64 0, .int .i64 0, .int .i64 0, .slice none 0 0, .int .i64 0, .int .i64 0, .int .i64 0]
    RpAt B kr R T N W2 ∧ W2.heap[km]? = some (.cells #[a, b] 41 (0, 0)) ∧ W2.heap[ko]? = some (.cells oc 83 (0, 0)) ∧ AS w bb k ss V es W2 ∧ W2.heap[kn]? = some (.cells #[.int .i64 0, .int .i64 0] 41 (0, 0)) ∧ RpAt B' kd Rep.none (.slice none 0 0) (.slice none 0 0) W2 ∧ W.heap.size = W2.heap.size := by
  intro W2
  obtain ⟨c1, e1, e2⟩ := setAll_row kn 41 [.int .i64 0, .int .i64 0] 0 W #[c, d] [] [c, d] [] n8 (by simp) rfl rfl
  have t1 : c1 = #[.int .i64 0, .int .i64 0] := by rw [← Array.toList_inj]; simpa using e2
  rw [t1] at e1
  obtain ⟨cs, hcs, hcl⟩ : ∃ cs, W.heap[kd]? = some (.cells cs 39 (0, 0)) ∧ cs.toList.length = 13 := ⟨_, dd.h, rfl⟩
  have d1 : (setAll W kn 0 [.int .i64 0, .int .i64 0]).heap[kd]? = some (.cells cs 39 (0, 0)) := (setAll_other kn _ 0 W kd (Ne.symm h5)).trans hcs
  obtain ⟨c2, e3, e4⟩ := setAll_row kd 39 [.int .i64 0, .slice none 0 0, .int .i64 0, .int .i64 0, .int .i64 0, .int .i64 0, .int .i64 0, .int .i64 0, .int .i64 0, .slice none 0 0, .int .i64 0, .int .i64 0, .int .i64 0] 0 (setAll W kn 0 [.int .i64 0, .int .i64 0]) cs [] cs.toList [] d1 (by simp) rfl hcl
  have t2 : c2 = #[.int .i64 0, .slice none 0 0, .int .i64 0, .int .i64 0, .int .i64 0, .int .i64 0, .int .i64 0, .int .i64 0, .int .i64 0, .slice none 0 0, .int .i64 0, .int .i64 0, .int .i64 0] := by rw [← Array.toList_inj]; simpa using e4
  rw [t2] at e3
  have g1 : W.grownBy (setAll W kn 0 [.int .i64 0, .int .i64 0]) (some kn) := Go.Proofs.YteibjmlimcpaoaaGreatDoor.W.gsA kn _ 0 W W (World.grownBy.refl _ _)
  have g2 : (setAll W kn 0 [.int .i64 0, .int .i64 0]).grownBy W2 (some kd) := Go.Proofs.YteibjmlimcpaoaaGreatDoor.W.gsA kd _ 0 _ _ (World.grownBy.refl _ _)
  have two : ∀ {j : Nat} {cs : Array Value} {T : TypeId} {fz : Nat × Nat}, W.heap[j]? = some (.cells cs T fz) → j ≠ kn → j ≠ kd → W2.heap[j]? = some (.cells cs T fz) := fun hj a b => Go.Proofs.YteibjmlimcpaoaaGreatDoor.W.grown_at g2 (Go.Proofs.YteibjmlimcpaoaaGreatDoor.W.grown_at g1 hj a) b
  have row : ∀ {B e size n : Nat} {v : Value} {xs : List Value}, W.ownsRow B e size v n xs → e ≠ 41 → e ≠ 39 → W2.ownsRow B e size v n xs := fun ho a b => (ho.kept g1 (.inr (own_kind_ne' ho n8 (Ne.symm a)))).kept g2 (.inr (own_kind_ne' (ho.kept g1 (.inr (own_kind_ne' ho n8 (Ne.symm a)))) d1 (Ne.symm b)))
  have knr : kr ≠ kn := by rintro rfl; have := r8.h; rw [n8] at this; cases this
  have kmd : km ≠ kd := by rintro rfl; have := dd.h; rw [m8] at this; cases this
  have kon : ko ≠ kn := by rintro rfl; rw [n8] at o8; cases o8
  have kod : ko ≠ kd := by rintro rfl; have := dd.h; rw [o8] at this; cases this
  refine ⟨⟨two r8.h knr h1, row r8.oT (by decide) (by decide), row r8.oN (by decide) (by decide)⟩, two m8 h2 kmd, two o8 kon kod, ⟨?_, row h.oS (by decide) (by decide), ?_⟩, ?_, ⟨e3, World.ownsRow_nil _ _ _ _, World.ownsRow_nil _ _ _ _⟩, ?_⟩
  · exact setAll_below h4 _ _ _ _ (setAll_below h3 _ _ _ _ h.bw)
  · obtain ⟨hB, VT, VN, VO, hq, o28, o33, o3, hes⟩ := h.bk
    have b1 : bb ≠ kn := by rintro rfl; rw [n8] at hq; cases hq
    have b2 : bb ≠ kd := by rintro rfl; have := dd.h; rw [hq] at this; cases this
    exact ⟨hB, VT, VN, VO, two hq b1 b2, row o28 (by decide) (by decide), row o33 (by decide) (by decide), row o3 (by decide) (by decide), fun e he => ⟨row (hes e he).1 (by decide) (by decide), row (hes e he).2 (by decide) (by decide)⟩⟩
  · exact Go.Proofs.YteibjmlimcpaoaaGreatDoor.W.grown_at g2 e1 h5
  · show _ = (setAll (setAll W kn 0 [.int .i64 0, .int .i64 0]) kd 0 [.int .i64 0, .slice none 0 0, .int .i64 0, .int .i64 0, .int .i64 0, .int .i64 0, .int .i64 0, .int .i64 0, .int .i64 0, .slice none 0 0, .int .i64 0, .int .i64 0, .int .i64 0]).heap.size
    rw [Go.Proofs.YteibjmlimcpaoaaGreatDoor.W.setAll_size, Go.Proofs.YteibjmlimcpaoaaGreatDoor.W.setAll_size]

/-- a report's block: all noughts -/
theorem finRep {w W : World} {bb k B B' kr km kn kd : Nat} {ss : List Value} {V : Value} {es : List Ent} {R w10 : Rep} {T N Td Nd : Value} {a b c d : Value} (h : AS w bb k ss V es W) (r8 : RpAt B kr R T N W) (m8 : W.heap[km]? = some (.cells #[a, b] 41 (0, 0))) (n8 : W.heap[kn]? = some (.cells #[c, d] 41 (0, 0))) (dd : RpAt B' kd w10 Td Nd W) (h1 : kr ≠ kd) (h4 : w.heap.size ≤ kd) :
    let W2 := setAll W kd 0 [.int .i64 0, .slice none 0 0, .int .i64 0, .int .i64 0, .int .i64 0, .int .i64 0, .int .i64 0, .int .i64 0, .int .i64 0, .slice none 0 0, .int .i64 0, .int .i64 0, .int .i64 0]
    RpAt B kr R T N W2 ∧ W2.heap[km]? = some (.cells #[a, b] 41 (0, 0)) ∧ AS w bb k ss V es W2 ∧ W2.heap[kn]? = some (.cells #[c, d] 41 (0, 0)) ∧ RpAt B' kd Rep.none (.slice none 0 0) (.slice none 0 0) W2 := by
  intro W2
  obtain ⟨cs, hcs, hcl⟩ : ∃ cs, W.heap[kd]? = some (.cells cs 39 (0, 0)) ∧ cs.toList.length = 13 := ⟨_, dd.h, rfl⟩
  obtain ⟨c2, e3, e4⟩ := setAll_row kd 39 [.int .i64 0, .slice none 0 0, .int .i64 0, .int .i64 0, .int .i64 0, .int .i64 0, .int .i64 0, .int .i64 0, .int .i64 0, .slice none 0 0, .int .i64 0, .int .i64 0, .int .i64 0] 0 W cs [] cs.toList [] hcs (by simp) rfl hcl
  have t2 : c2 = #[.int .i64 0, .slice none 0 0, .int .i64 0, .int .i64 0, .int .i64 0, .int .i64 0, .int .i64 0, .int .i64 0, .int .i64 0, .slice none 0 0, .int .i64 0, .int .i64 0, .int .i64 0] := by rw [← Array.toList_inj]; simpa using e4
  rw [t2] at e3
  have g2 : W.grownBy W2 (some kd) := Go.Proofs.YteibjmlimcpaoaaGreatDoor.W.gsA kd _ 0 _ _ (World.grownBy.refl _ _)
  have row : ∀ {B e size n : Nat} {v : Value} {xs : List Value}, W.ownsRow B e size v n xs → e ≠ 39 → W2.ownsRow B e size v n xs := fun ho b => ho.kept g2 (.inr (own_kind_ne' ho hcs (Ne.symm b)))
  have kmd : km ≠ kd := by rintro rfl; rw [m8] at hcs; cases hcs
  have knd : kn ≠ kd := by rintro rfl; rw [n8] at hcs; cases hcs
  refine ⟨⟨Go.Proofs.YteibjmlimcpaoaaGreatDoor.W.grown_at g2 r8.h h1, row r8.oT (by decide), row r8.oN (by decide)⟩, Go.Proofs.YteibjmlimcpaoaaGreatDoor.W.grown_at g2 m8 kmd, ⟨setAll_below h4 _ _ _ _ h.bw, row h.oS (by decide), ?_⟩, Go.Proofs.YteibjmlimcpaoaaGreatDoor.W.grown_at g2 n8 knd, ⟨e3, World.ownsRow_nil _ _ _ _, World.ownsRow_nil _ _ _ _⟩⟩
  obtain ⟨hB, VT, VN, VO, hq, o28, o33, o3, hes⟩ := h.bk
  have b2 : bb ≠ kd := by rintro rfl; rw [hq] at hcs; cases hcs
  exact ⟨hB, VT, VN, VO, Go.Proofs.YteibjmlimcpaoaaGreatDoor.W.grown_at g2 hq b2, row o28 (by decide), row o33 (by decide), row o3 (by decide), fun e he => ⟨row (hes e he).1 (by decide), row (hes e he).2 (by decide)⟩⟩
theorem ne_above' {a b : Option Nat} (m : Nat) (h : ∀ k, a = some k → m ≤ k) (h' : ∀ k, b = some k → k < m) : a = none ∨ b ≠ a := by
  cases a with
  | none => exact .inl rfl
  | some k =>
    refine .inr (fun e => ?_)
    have := h k rfl
    have := h' k e
    omega

end Go.Proofs.YteibjmlimcpaoaaGreatDoor.V
