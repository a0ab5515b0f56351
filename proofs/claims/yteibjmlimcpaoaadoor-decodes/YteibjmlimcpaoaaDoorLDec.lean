/-
  The two Decodes against one report, and what the law's loop carries: the report of visorref's Decode, the book, its entries.
-/
import Derived.Test.YteibjmlimcpaoaaDoorLBook
import Derived.Test.YteibjmlimcpaoaaDoorLStill
import Derived.Test.YteibjmlimcpaoaaDoorDRg
set_option linter.unusedVariables false
set_option linter.unusedSimpArgs false
namespace Go.Proofs.YteibjmlimcpaoaaDoor
open Go.RowKit Go.Sort

def zrep : Rep := ⟨0, [], 0, 0, 0, 0, 0, 0, 0, [], 0, 0, 0⟩
/-- the report that these bytes have, and the error -/
def repOf (b : List UInt8) : Rep := (decOf b).getD zrep
def errOf (b : List UInt8) : Int := if (decOf b).isSome then 0 else 5
/-- what a Decode answers -/
def AnsIs (f : Nat) (S : ByteArray) (r : Rep) (X : Int) (w : World) : Prop :=
  Calls Tryd.prog f #[.string S] w fun e w' => ∃ ta tc na nc, e = .returned (.tuple #[.agg #[.int .i64 r.kind, (.slice ta r.lt.length tc), .int .i64 r.hs, .int .i64 r.hf, .int .i64 r.hu, .int .i64 r.rs, .int .i64 r.rv, .int .i64 r.rb, .int .i64 r.nm, (.slice na r.ln.length nc), .int .i64 r.cs, .int .i64 r.cf, .int .i64 r.cc], .int .i64 X]) ∧ w'.ownsRow w.heap.size 77 3 (.slice ta r.lt.length tc) r.lt.length (tcells r.lt) ∧ w'.ownsRow w.heap.size 79 7 (.slice na r.ln.length nc) r.ln.length (ncells r.ln) ∧ Below w.heap.size w w'
set_option linter.constructorNameAsVariable false in
set_option maxHeartbeats 2000000 in
theorem ansIs_of {f : Nat} {S : ByteArray} {b : List UInt8} {w : World} (D : World → Value → Prop) (h : Calls Tryd.prog f #[.string S] w fun e w' => ∃ v, e = .returned v ∧ D w' v ∧ Below w.heap.size w w')
    (hD : ∀ w' v, D w' v → ∃ T N, v = .tuple #[(repOf b).val T N, .int .i64 (errOf b)] ∧ w'.ownsRow w.heap.size 77 3 T (repOf b).lt.length (tcells (repOf b).lt) ∧ w'.ownsRow w.heap.size 79 7 N (repOf b).ln.length (ncells (repOf b).ln)) : AnsIs f S (repOf b) (errOf b) w := by
  refine h.mono ?_
  rintro e w' ⟨v, rfl, hd, hb⟩
  obtain ⟨T, N, rfl, h1, h2⟩ := hD w' v hd
  obtain ⟨ta, tc, rfl, _⟩ := own_slice h1
  obtain ⟨na, nc, rfl, _⟩ := own_slice h2
  exact ⟨ta, tc, na, nc, rfl, h1, h2, hb⟩
set_option linter.constructorNameAsVariable false in
set_option maxHeartbeats 2000000 in
theorem ans15 (b : List UInt8) (w : World) (hl : b.length ≤ 9223372036854775807) (hu : Utabs w) : AnsIs 17 ⟨b.toArray⟩ (repOf b) (errOf b) w := by
  refine ansIs_of (DecIs w.heap.size b) (dec15 b w hl hu) ?_
  intro w' v hd
  unfold DecIs at hd
  unfold repOf errOf
  cases h : decOf b with
  | none =>
    rw [h] at hd
    exact ⟨.slice none 0 0, .slice none 0 0, hd, World.ownsRow_nil _ _ _ _, World.ownsRow_nil _ _ _ _⟩
  | some r =>
    rw [h] at hd
    obtain ⟨T, N, h1, h2, h3, _⟩ := hd
    exact ⟨T, N, h1, h2, h3⟩
set_option linter.constructorNameAsVariable false in
set_option maxHeartbeats 2000000 in
theorem ans16 (b : List UInt8) (w : World) (hl : b.length ≤ 9223372036854775807) : AnsIs 18 ⟨b.toArray⟩ (repOf b) (errOf b) w := by
  refine ansIs_of (fun w' v => ∃ T N, v = .tuple #[(repOf b).val T N, .int .i64 (errOf b)] ∧ w'.ownsRow w.heap.size 77 3 T (repOf b).lt.length (tcells (repOf b).lt) ∧ w'.ownsRow w.heap.size 79 7 N (repOf b).ln.length (ncells (repOf b).ln)) (dec16_any b w hl _ (rrep b) rfl ?_ ?_) (fun _ _ h => h)
  · intro w' hne
    have h : decOf b = none := by
      rw [← refOf_dec]
      unfold refOf
      rw [if_neg hne]
    unfold repOf errOf
    rw [h]
    exact ⟨.slice none 0 0, .slice none 0 0, rfl, World.ownsRow_nil _ _ _ _, World.ownsRow_nil _ _ _ _⟩
  · intro w' T N he h1 h2
    have h : decOf b = some (rrep b) := by
      rw [← refOf_dec]
      unfold refOf
      rw [if_pos he]
    unfold repOf errOf
    rw [h]
    exact ⟨T, N, rfl, h1, h2⟩
theorem repOf_len (b : List UInt8) : (repOf b).lt.length ≤ 256 ∧ (repOf b).ln.length ≤ 256 := by
  unfold repOf
  cases h : decOf b with
  | none => exact ⟨by decide, by decide⟩
  | some r =>
    have hr := (decOf_some.1 h).1
    unfold Rep.right rightB at hr
    simp only [Bool.and_eq_true, decide_eq_true_eq] at hr
    show r.lt.length ≤ 256 ∧ r.ln.length ≤ 256
    omega

theorem own_fr {bb B e size n : Nat} {tO nO : Option Nat} {w w' : World} {v : Value} {xs : List Value} {cs : Array Value} {fz : Nat × Nat} (h : w.ownsRow B e size v n xs) (fr : Fr bb tO nO w w') (hbb : w.heap[bb]? = some (.cells cs 52 fz)) (he : e ≠ 28 ∧ e ≠ 33 ∧ e ≠ 3 ∧ e ≠ 52) (h1 : v.ownBlock = none ∨ v.ownBlock ≠ tO) (h2 : v.ownBlock = none ∨ v.ownBlock ≠ nO) : w'.ownsRow B e size v n xs := by
  obtain ⟨a, ⟨hv, h0⟩ | ⟨g, cap, cur, hv, hb, hg, hr⟩⟩ := h
  · exact ⟨a, .inl ⟨hv, h0⟩⟩
  · have hvb : v.ownBlock = some g := by rw [hv]; rfl
    rw [hvb] at h1 h2
    have := fr g cur e (0, 0) hg (by rintro rfl; rw [hg] at hbb; cases hbb; exact he.2.2.2 rfl) he.1 he.2.1 he.2.2.1 (h1.resolve_left (by simp)) (h2.resolve_left (by simp))
    exact ⟨a, .inr ⟨g, cap, cur, hv, hb, this, hr⟩⟩
theorem ne_kind {w : World} {B e size n B' e' size' n' : Nat} {v v' : Value} {xs xs' : List Value} (h : w.ownsRow B e size v n xs) (h' : w.ownsRow B' e' size' v' n' xs') (he : e' ≠ e) : v.ownBlock = none ∨ v.ownBlock ≠ v'.ownBlock := by
  cases hv : v'.ownBlock with
  | none => cases v.ownBlock <;> simp
  | some k =>
    obtain ⟨c, fz, h2⟩ := Lib.ownsRow_kind h' k hv
    exact .inr (own_kind_ne' h h2 he)
theorem ne_sep {a b : Option Nat} (m : Nat) (h : ∀ k, a = some k → k < m) (h' : ∀ k, b = some k → m ≤ k) : a = none ∨ a ≠ b := by
  cases a with
  | none => exact .inl rfl
  | some k =>
    refine .inr (fun e => ?_)
    have := h k rfl
    have := h' k e.symm
    omega
theorem ne_sep' {a b : Option Nat} (m : Nat) (h : ∀ k, a = some k → m ≤ k) (h' : ∀ k, b = some k → k < m) : a = none ∨ b ≠ a := by
  cases a with
  | none => exact .inl rfl
  | some k =>
    refine .inr (fun e => ?_)
    have := h k rfl
    have := h' k e
    omega
theorem BookIs.below {B bb n : Nat} {es : List Ent} {w w' : World} (h : BookIs B bb es n w) (hb : Below w.heap.size w w') : BookIs B bb es n w' := by
  obtain ⟨hB, VT, VN, VO, hq, o28, o33, o3, hes⟩ := h
  exact ⟨hB, VT, VN, VO, belowAt' hb hq, own_any o28 hb, own_any o33 hb, own_any o3 hb, fun e he => ⟨own_any (hes e he).1 hb, own_any (hes e he).2 hb⟩⟩
/-- what the law's loop carries -/
structure DBk (w : World) (bb p7 : Nat) (r : Rep) (Tw Nw : Value) (es : List Ent) (n : Nat) (w1 : World) : Prop where
  bw : Below w.heap.size w w1
  bk : BookIs w.heap.size bb es n w1
  h7 : w1.heap[p7]? = some (.cells #[.int .i64 r.kind, Tw, .int .i64 r.hs, .int .i64 r.hf, .int .i64 r.hu, .int .i64 r.rs, .int .i64 r.rv, .int .i64 r.rb, .int .i64 r.nm, Nw, .int .i64 r.cs, .int .i64 r.cf, .int .i64 r.cc] 37 (0, 0))
  oT : w1.ownsRow w.heap.size 77 3 Tw r.lt.length (tcells r.lt)
  oN : w1.ownsRow w.heap.size 79 7 Nw r.ln.length (ncells r.ln)
  hq : ∀ e ∈ es, e.q ≤ n
theorem DBk.below {w w1 w2 : World} {bb p7 n : Nat} {r : Rep} {Tw Nw : Value} {es : List Ent} (d : DBk w bb p7 r Tw Nw es n w1) (hb : Below w1.heap.size w1 w2) : DBk w bb p7 r Tw Nw es n w2 :=
  ⟨d.bw.trans (hb.mono d.bw.size), d.bk.below hb, belowAt' hb d.h7, own_any d.oT hb, own_any d.oN hb, d.hq⟩
theorem DBk.report {w w1 w2 : World} {bb p7 n : Nat} {r : Rep} {Tw Nw T N : Value} {es new : List Ent} (d : DBk w bb p7 r Tw Nw es n w1) (hb : Below w.heap.size w1 w2) (fr : Fr bb T.ownBlock N.ownBlock w1 w2) (bk : BookIs w.heap.size bb (es ++ new) (n + 1) w2) (hq : ∀ e ∈ new, e.q = n + 1)
    (oT : w1.ownsRow w.heap.size 77 3 T r.lt.length (tcells r.lt)) (oN : w1.ownsRow w.heap.size 79 7 N r.ln.length (ncells r.ln)) (hT : Tw.ownBlock = none ∨ Tw.ownBlock ≠ T.ownBlock) (hN : Nw.ownBlock = none ∨ Nw.ownBlock ≠ N.ownBlock) : DBk w bb p7 r Tw Nw (es ++ new) (n + 1) w2 := by
  have hbb := d.bk
  obtain ⟨_, VT, VN, VO, hbb, _⟩ := hbb
  refine ⟨d.bw.trans hb, bk, fr _ _ _ _ d.h7 ?_ (by decide) (by decide) (by decide) ?_ ?_, own_fr d.oT fr hbb (by decide) hT (ne_kind d.oT oN (by decide)), own_fr d.oN fr hbb (by decide) (ne_kind d.oN oT (by decide)) hN, ?_⟩
  · rintro rfl
    rw [d.h7] at hbb
    cases hbb
  · exact fun e => own_kind_ne' oT d.h7 (by decide) e.symm
  · exact fun e => own_kind_ne' oN d.h7 (by decide) e.symm
  · intro e he
    rcases List.mem_append.1 he with he | he
    · exact Nat.le_succ_of_le (d.hq e he)
    · rw [hq e he]
      exact Nat.le_refl _

theorem ret_int' {k : IntKind} {a b : Int} (h : a = b) : Ending.returned (.int k a) = .returned (.int k b) := by rw [h]

set_option maxRecDepth 100000 in
set_option maxHeartbeats 1000000 in
theorem pick17 (c : Int) (w : World) (h0 : -9223372036854775808 ≤ c) (h1 : c ≤ 9223372036854775807) :
    Calls Tryd.prog 19 #[.int .i64 c, .int .i64 30] w fun e w' => ∃ m : Nat, m < 30 ∧ e = .returned (.int .i64 m) ∧ w' = w := by
  by_cases hc : c < 0
  · go_enter Tryd.func19, Tryd.ntmps19
    go_wp2
    go_ret
    refine ⟨((-(c + 1)) % 30).toNat, by omega, ret_int' ?_, rfl⟩
    rw [← Int.neg_tmod, Int.tmod_eq_emod_of_nonneg (by omega)]
    omega
  · have hc' : 0 ≤ c := by omega
    go_enter Tryd.func19, Tryd.ntmps19
    go_wp2
    go_ret
    exact ⟨(c % 30).toNat, by omega, ret_int' (by omega), rfl⟩
def exL : List UInt8 := [1, 0, 8, 0, 0, 0, 0, 8, 0, 0, 0, 0, 8, 0, 8, 0, 0, 0, 0, 0, 0]
theorem ex_is : repOf exL = ⟨1, [], 8, 0, 0, 8, 0, 0, 8, [], 8, 0, 0⟩ := by rfl
theorem ex_err : errOf exL = 0 := by rfl
end Go.Proofs.YteibjmlimcpaoaaDoor
