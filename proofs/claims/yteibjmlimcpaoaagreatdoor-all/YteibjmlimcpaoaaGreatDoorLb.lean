/-
  A report that lies in memory, a meter, a book: what leaves them as they are. (For the laws' own walks.)
  What the law's own least answers. Nothing that lay in memory turns.
-/
import Derived.Test.YteibjmlimcpaoaaGreatDoorLBook
import Derived.Test.YteibjmlimcpaoaaGreatDoorLStill
import Derived.Test.YteibjmlimcpaoaaGreatDoorLc
import Derived.Test.YteibjmlimcpaoaaGreatDoorKa
import Derived.Test.YteibjmlimcpaoaaGreatDoorRvR
import Derived.Test.YteibjmlimcpaoaaGreatDoorLPl
set_option linter.unusedVariables false
set_option linter.unusedSimpArgs false
namespace Go.Proofs.YteibjmlimcpaoaaGreatDoor.V
open Go.RowKit Go.Sort
open Go.Proofs.YteibjmlimcpaoaaGreatDoor.W (at_below at_alloc new_at below_alloc PolIs pv strV Gl cell_lt inspectW sinspectW)

/-- a report in the block k, its lists new from B on -/
structure RpAt (B k : Nat) (r : Rep) (T N : Value) (w : World) : Prop where
  h : w.heap[k]? = some (.cells #[.int .i64 r.kind, T, .int .i64 r.hs, .int .i64 r.hf, .int .i64 r.hu, .int .i64 r.rs, .int .i64 r.rv, .int .i64 r.rb, .int .i64 r.nm, N, .int .i64 r.cs, .int .i64 r.cf, .int .i64 r.cc] 39 (0, 0))
  oT : w.ownsRow B 74 3 T r.lt.length (tcells r.lt)
  oN : w.ownsRow B 72 7 N r.ln.length (ncells r.ln)
theorem RpAt.below {B k : Nat} {r : Rep} {T N : Value} {w w' : World} (h : RpAt B k r T N w) (hb : Below w.heap.size w w') : RpAt B k r T N w' := ⟨at_below h.h hb, own_any h.oT hb, own_any h.oN hb⟩
theorem RpAt.grown {B k g : Nat} {r : Rep} {T N : Value} {w w' : World} {cs : Array Value} {t : TypeId} {fz : Nat × Nat} (h : RpAt B k r T N w) (hg : w.grownBy w' (some g)) (hk : w.heap[g]? = some (.cells cs t fz)) (h1 : t ≠ 39) (h2 : t ≠ 74) (h3 : t ≠ 72) : RpAt B k r T N w' :=
  ⟨Go.Proofs.YteibjmlimcpaoaaGreatDoor.W.grown_at hg h.h (by rintro rfl; have h5 := h.h; rw [hk] at h5; cases h5; exact h1 rfl), h.oT.kept hg (.inr (own_kind_ne' h.oT hk h2)), h.oN.kept hg (.inr (own_kind_ne' h.oN hk h3))⟩
theorem own_frB {bb B e size n : Nat} {tO nO : Option Nat} {w w' : World} {v : Value} {xs : List Value} {cs : Array Value} {fz : Nat × Nat} (h : w.ownsRow B e size v n xs) (fr : Fr bb tO nO w w') (hbb : w.heap[bb]? = some (.cells cs 56 fz)) (he : e ≠ 30 ∧ e ≠ 35 ∧ e ≠ 3 ∧ e ≠ 56) (h1 : v.ownBlock = none ∨ v.ownBlock ≠ tO) (h2 : v.ownBlock = none ∨ v.ownBlock ≠ nO) : w'.ownsRow B e size v n xs := by
  obtain ⟨a, ⟨hv, h0⟩ | ⟨g, cap, cur, hv, hb, hg, hr⟩⟩ := h
  · exact ⟨a, .inl ⟨hv, h0⟩⟩
  · have hvb : v.ownBlock = some g := by rw [hv]; rfl
    rw [hvb] at h1 h2
    have := fr g cur e (0, 0) hg (by rintro rfl; rw [hg] at hbb; cases hbb; exact he.2.2.2 rfl) he.1 he.2.1 he.2.2.1 (h1.resolve_left (by simp)) (h2.resolve_left (by simp))
    exact ⟨a, .inr ⟨g, cap, cur, hv, hb, this, hr⟩⟩
theorem ne_kindB {w : World} {B e size n B' e' size' n' : Nat} {v v' : Value} {xs xs' : List Value} (h : w.ownsRow B e size v n xs) (h' : w.ownsRow B' e' size' v' n' xs') (he : e' ≠ e) : v.ownBlock = none ∨ v.ownBlock ≠ v'.ownBlock := by
  cases hv : v'.ownBlock with
  | none => cases v.ownBlock <;> simp
  | some k =>
    obtain ⟨c, fz, h2⟩ := Lib.ownsRow_kind h' k hv
    exact .inr (own_kind_ne' h h2 he)
/-- a report, another's lists being turned over -/
theorem RpAt.fr {B B' k bb : Nat} {r r' : Rep} {T N T' N' : Value} {w w' : World} {cs : Array Value} {fz : Nat × Nat} (h : RpAt B k r T N w) (fr : Fr bb T'.ownBlock N'.ownBlock w w') (hbb : w.heap[bb]? = some (.cells cs 56 fz)) (k' : Nat) (h' : RpAt B' k' r' T' N' w)
    (hT : T.ownBlock = none ∨ T.ownBlock ≠ T'.ownBlock) (hN : N.ownBlock = none ∨ N.ownBlock ≠ N'.ownBlock) : RpAt B k r T N w' := by
  refine ⟨fr _ _ _ _ h.h ?_ (by decide) (by decide) (by decide) ?_ ?_, own_frB h.oT fr hbb (by decide) hT (ne_kindB h.oT h'.oN (by decide)), own_frB h.oN fr hbb (by decide) (ne_kindB h.oN h'.oT (by decide)) hN⟩
  · rintro rfl
    have := h.h
    rw [hbb] at this
    cases this
  · exact fun e => own_kind_ne' h'.oT h.h (by decide) e.symm
  · exact fun e => own_kind_ne' h'.oN h.h (by decide) e.symm
theorem fr_cell {bb k : Nat} {B' k' : Nat} {r' : Rep} {T' N' : Value} {w w' : World} {cs cs2 : Array Value} {fz fz2 : Nat × Nat} {t : TypeId} (fr : Fr bb T'.ownBlock N'.ownBlock w w') (hbb : w.heap[bb]? = some (.cells cs 56 fz)) (h' : RpAt B' k' r' T' N' w) (h : w.heap[k]? = some (.cells cs2 t fz2))
    (ht : t ≠ 30 ∧ t ≠ 35 ∧ t ≠ 3 ∧ t ≠ 56 ∧ t ≠ 74 ∧ t ≠ 72) : w'.heap[k]? = some (.cells cs2 t fz2) := by
  refine fr _ _ _ _ h ?_ ht.1 ht.2.1 ht.2.2.1 ?_ ?_
  · rintro rfl
    rw [hbb] at h
    cases h
    exact ht.2.2.2.1 rfl
  · exact fun e => own_kind_ne' h'.oT h ht.2.2.2.2.1 e.symm
  · exact fun e => own_kind_ne' h'.oN h ht.2.2.2.2.2 e.symm
theorem ne_below {a b : Option Nat} (m : Nat) (h : ∀ k, a = some k → k < m) (h' : ∀ k, b = some k → m ≤ k) : a = none ∨ a ≠ b := by
  cases a with
  | none => exact .inl rfl
  | some k =>
    refine .inr (fun e => ?_)
    have := h k rfl
    have := h' k e.symm
    omega
theorem ne_above {a b : Option Nat} (m : Nat) (h : ∀ k, a = some k → m ≤ k) (h' : ∀ k, b = some k → k < m) : a = none ∨ a ≠ b := by
  cases a with
  | none => exact .inl rfl
  | some k =>
    refine .inr (fun e => ?_)
    have := h k rfl
    have := h' k e.symm
    omega
theorem BookIs.belowV {B bb n : Nat} {es : List Ent} {w w' : World} (h : BookIs B bb es n w) (hb : Below w.heap.size w w') : BookIs B bb es n w' := by
  obtain ⟨hB, VT, VN, VO, hq, o28, o33, o3, hes⟩ := h
  exact ⟨hB, VT, VN, VO, at_below hq hb, own_any o28 hb, own_any o33 hb, own_any o3 hb, fun e he => ⟨own_any (hes e he).1 hb, own_any (hes e he).2 hb⟩⟩
theorem BookIs.box {B bb n : Nat} {es : List Ent} {w : World} (h : BookIs B bb es n w) : ∃ cs, w.heap[bb]? = some (.cells cs 56 (0, 0)) := by
  obtain ⟨hB, VT, VN, VO, hq, _⟩ := h
  exact ⟨_, hq⟩

set_option maxRecDepth 100000 in
theorem enoughV (D : List UInt8) (w : World) (hD : D.length ≤ 140737488355328) (b : Int) (hb : 64 * (D.length : Int) + 4096 = b) :
    Calls Tryz.prog 13 #[strV D] w fun e w' => e = .returned (.int .i64 b) ∧ w' = w := by
  subst hb
  unfold strV
  go_enter Tryz.func13, Tryz.ntmps13
  go_wp2
  go_ret
  exact ⟨rfl, rfl⟩

/-- what the document asks for, and the error -/
def askR (P : Pol) (D : List UInt8) : Rep × Int := if P.ok = false then (Rep.none, 2) else if 2000 < D.length then (Rep.none, 3) else (docR P D, 0)
theorem ask_len (P : Pol) (D : List UInt8) : (askR P D).1.lt.length ≤ 16 ∧ (askR P D).1.ln.length ≤ 20 := by
  unfold askR
  split
  · exact ⟨by decide, by decide⟩
  · split
    · exact ⟨by decide, by decide⟩
    · simp only
      rw [doc_is]
      have h := insp_len P D (64 * (D.length : Int) + 4096)
      rename_i h1 h2
      have hp : P.ok = true := by cases hq : P.ok <;> simp_all
      rw [insp_eq P D _ hp (by omega), if_pos (by have := steps_le P D; omega)] at h
      exact h
theorem insp_ask (P : Pol) (D : List UInt8) : ∃ st rd, inspOf P D (64 * (D.length : Int) + 4096) = ((askR P D).1, (st, rd), (askR P D).2) ∧ ((askR P D).2 = 0 → (st : Int) ≤ 64 * (D.length : Int) + 4096 ∧ leastR (askR P D).1 ≤ rd ∧ rd ≤ 8 * st) ∧ (¬ (askR P D).2 = 0 → st = 0 ∧ rd = 0) := by
  unfold askR
  by_cases h1 : P.ok = false
  · rw [if_pos h1]
    refine ⟨0, 0, ?_, fun h => by simp at h, fun _ => ⟨rfl, rfl⟩⟩
    unfold inspOf
    rw [if_pos h1]
  · rw [if_neg h1]
    by_cases h2 : 2000 < D.length
    · rw [if_pos h2]
      refine ⟨0, 0, ?_, fun h => by simp at h, fun _ => ⟨rfl, rfl⟩⟩
      unfold inspOf
      rw [if_neg h1, if_pos h2]
    · rw [if_neg h2]
      have hp : P.ok = true := by cases hq : P.ok <;> simp_all
      have hs := steps_le P D
      refine ⟨(trD P D).length, rd (trD P D), ?_, fun _ => ⟨by omega, ?_, ?_⟩, fun h => by simp at h⟩
      · rw [insp_eq P D _ hp (by omega), if_pos (by omega), doc_is]
      · simp only
        rw [doc_is]
        exact Nat.le_trans (least_le P D) (reads_ge P D)
      · have := reads_le P D
        omega
/-- visorref.Inspect, of every policy and every file -/
theorem inspectD (P : Pol) (T I : Value) (D : List UInt8) (w : World) (hp : PolIs P T I w) (hD : D.length ≤ 9223372036854775807) (r : Rep) (er : Int) (hr : askR P D = (r, er)) :
    Calls Tryz.prog 14 #[pv T I P.text, strV D] w fun e w' => ∃ VA VB, e = .returned (.tuple #[r.val VA VB, .int .i64 er]) ∧ w'.ownsRow w.heap.size 74 3 VA r.lt.length (tcells r.lt) ∧ w'.ownsRow w.heap.size 72 7 VB r.ln.length (ncells r.ln) ∧ Below w.heap.size w w' := by
  unfold askR at hr
  by_cases h1 : P.ok = false
  · rw [if_pos h1] at hr
    cases hr
    refine (inspectRno P T I D w hp hD 2 (by rw [if_pos h1]) (by decide)).mono ?_
    rintro e w' ⟨rfl, hb⟩
    exact ⟨.slice none 0 0, .slice none 0 0, rfl, World.ownsRow_nil _ _ _ _, World.ownsRow_nil _ _ _ _, hb⟩
  · rw [if_neg h1] at hr
    by_cases h2 : 2000 < D.length
    · rw [if_pos h2] at hr
      cases hr
      refine (inspectRno P T I D w hp hD 3 (by rw [if_neg h1, if_pos h2]) (by decide)).mono ?_
      rintro e w' ⟨rfl, hb⟩
      exact ⟨.slice none 0 0, .slice none 0 0, rfl, World.ownsRow_nil _ _ _ _, World.ownsRow_nil _ _ _ _, hb⟩
    · rw [if_neg h2] at hr
      cases hr
      have hp1 : P.ok = true := by cases hq : P.ok <;> simp_all
      exact inspectR P T I D w hp hp1 (by omega) _ rfl
end Go.Proofs.YteibjmlimcpaoaaGreatDoor.V

set_option linter.unusedVariables false
set_option linter.unusedSimpArgs false
namespace Go.Proofs.YteibjmlimcpaoaaGreatDoor.V
open Go.RowKit Go.Sort
open Go.Proofs.YteibjmlimcpaoaaGreatDoor.W (at_below at_alloc new_at below_alloc)
open Go.Proofs.YteibjmlimcpaoaaGreatDoor.K (cntT cntT_step cntT_le)

set_option maxRecDepth 100000 in
set_option maxHeartbeats 1000000 in
theorem leastV (r : Rep) (tao nao : Option Addr) (tcap ncap : Nat) (w : World) (hlt : r.lt.length ≤ 1048576) (hln : r.ln.length ≤ 1048576) (hT : RowIs w (.slice tao r.lt.length tcap) r.lt.length (tcells r.lt)) :
    Calls Tryz.prog 17 #[.agg #[.int .i64 r.kind, .slice tao r.lt.length tcap, .int .i64 r.hs, .int .i64 r.hf, .int .i64 r.hu, .int .i64 r.rs, .int .i64 r.rv, .int .i64 r.rb, .int .i64 r.nm, .slice nao r.ln.length ncap, .int .i64 r.cs, .int .i64 r.cf, .int .i64 r.cc]] w
      fun e w' => e = .returned (.int .i64 (leastR r : Int)) ∧ Below w.heap.size w w' := by
  obtain ⟨W, hW⟩ : ∃ W, w.alloc (.cells #[.int .i64 r.kind, .slice tao r.lt.length tcap, .int .i64 r.hs, .int .i64 r.hf, .int .i64 r.hu, .int .i64 r.rs, .int .i64 r.rv, .int .i64 r.rb, .int .i64 r.nm, .slice nao r.ln.length ncap, .int .i64 r.cs, .int .i64 r.cf, .int .i64 r.cc] 39) = W := ⟨_, rfl⟩
  have hbW : Below w.heap.size w W := by rw [← hW]; exact below_alloc _ _
  have n0 : W.heap[w.heap.size]? = some (.cells #[.int .i64 r.kind, .slice tao r.lt.length tcap, .int .i64 r.hs, .int .i64 r.hf, .int .i64 r.hu, .int .i64 r.rs, .int .i64 r.rv, .int .i64 r.rb, .int .i64 r.nm, .slice nao r.ln.length ncap, .int .i64 r.cs, .int .i64 r.cf, .int .i64 r.cc] 39 (0, 0)) := by rw [← hW]; exact new_at _ _
  have HT := Lib.hid (hT.on hbW)
  have H0 := Lib.hid n0
  have x0 := cellsAt n0 0
  have x1 := cellsAt n0 1
  have x9 := cellsAt n0 9
  simp only [List.getElem?_toArray, List.getElem?_cons_zero, List.getElem?_cons_succ] at x0 x1 x9
  obtain ⟨base, hbase⟩ : ∃ base : Nat, (if r.kind = 1 ∨ r.kind = 2 then 6 else 0) = base := ⟨_, rfl⟩
  have hb0 : base ≤ 6 := by rw [← hbase]; split <;> omega
  have hfin : leastR r = base + 8 * cntT r.lt + 8 * r.ln.length := by
    rw [← hbase]
    unfold leastR cntT
    omega
  have HF := Lib.hid hfin
  have hcase : ((r.kind == 1) = true ∧ base = 6) ∨ ((r.kind == 1) = false ∧ (r.kind == 2) = true ∧ base = 6) ∨ ((r.kind == 1) = false ∧ (r.kind == 2) = false ∧ base = 0) := by
    by_cases k1 : r.kind = 1
    · exact .inl ⟨by simp [k1], by rw [← hbase, if_pos (.inl k1)]⟩
    · by_cases k2 : r.kind = 2
      · exact .inr (.inl ⟨by simp [k1], by simp [k2], by rw [← hbase, if_pos (.inr k2)]⟩)
      · exact .inr (.inr ⟨by simp [k1], by simp [k2], by rw [← hbase, if_neg (by omega)]⟩)
  clear hT n0 hfin hbase
  rcases hcase with ⟨e1, hbase⟩ | ⟨e1, e2, hbase⟩ | ⟨e1, e2, hbase⟩
  all_goals (
  go_enter Tryz.func17, Tryz.ntmps17
  go_wp2
  (
    go_loopw [3, 4] (fun ns is wr => ∃ (k : Nat), is = .int .i64 (k : Int) ∧ k ≤ r.lt.length ∧ ns = .int .i64 ((base + 8 * cntT (r.lt.take k) : Nat) : Int) ∧ wr = W) (fun _ is _ => r.lt.length - (intOf is).toNat)
    case atStart =>
      refine ⟨0, rfl, Nat.zero_le _, val_int ?_, rfl⟩
      have e : cntT (r.lt.take 0) = 0 := rfl
      rw [e, hbase]
      omega
    case round =>
      obtain ⟨k, rfl, hk, rfl, rfl⟩ := hrel
      by_cases hk1 : k < r.lt.length
      · obtain ⟨_, _, hao, ha⟩ := HT.out
        cases hao
        obtain ⟨g, o, rfl, hca⟩ := ha (by omega)
        obtain ⟨⟨tag, st, sz⟩, hx⟩ : ∃ x, r.lt[k]? = some x := ⟨_, List.getElem?_eq_getElem hk1⟩
        obtain ⟨t0, t1, t2⟩ := tcells_at r.lt k _ hx
        have c1 := hca _ _ t1
        simp only at c1
        rw [← Nat.add_assoc] at c1
        have hs := cntT_step r.lt k _ hx
        have hle := cntT_le r.lt k
        simp only at hs
        clear ha hca t0 t1 t2 hx
        have ik0 : (0 : Int) ≤ (k : Int) := by omega
        have ik1 : (k : Int) < (r.lt.length : Int) := by omega
        generalize cntT (r.lt.take k) = c at *
        by_cases h1 : st = 0
        · subst h1
          have b1 : ((0 : Int) == 0) = true := rfl
          rw [if_pos (.inl rfl)] at hs
          go_wp2
          exact ⟨⟨k + 1, by go_num, by omega, by rw [hs]; exact val_int (by omega), (by first | rfl | trivial)⟩, by simp [intOf]; omega⟩
        · by_cases h2 : st = 4
          · subst h2
            have b1 : ((4 : Int) == 0) = false := rfl
            have b2 : ((4 : Int) == 4) = true := rfl
            rw [if_pos (.inr rfl)] at hs
            go_wp2
            exact ⟨⟨k + 1, by go_num, by omega, by rw [hs]; exact val_int (by omega), (by first | rfl | trivial)⟩, by simp [intOf]; omega⟩
          · rw [if_neg (by omega)] at hs
            have b1 : (st == 0) = false := by simp [h1]
            have b2 : (st == 4) = false := by simp [h2]
            go_wp2
            exact ⟨⟨k + 1, by go_num, by omega, by rw [hs]; exact val_int (by omega), (by first | rfl | trivial)⟩, by simp [intOf]; omega⟩
      · have hge : ¬ ((k : Int) < (r.lt.length : Int)) := by omega
        obtain rfl : k = r.lt.length := by omega
        have hcl : cntT r.lt ≤ r.lt.length := by
          have := cntT_le r.lt r.lt.length
          rwa [List.take_length] at this
        go_wp2
        go_ret
        refine ⟨ret_int ?_, hbW⟩
        rw [HF.out]
        (try rw [List.take_length])
        omega))
end Go.Proofs.YteibjmlimcpaoaaGreatDoor.V
