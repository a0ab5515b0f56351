/-
  What the law's own Book.report leaves: the report's lists full of their owner's mark, and four entries more in the book; what stood in the book stands there still.
-/
import Derived.Test.YteibjmlimcpaoaaGreatDoorLApp
import Derived.Test.YteibjmlimcpaoaaGreatDoorEa
import Derived.Deep.AppendLies
set_option linter.unusedVariables false
set_option linter.unusedSimpArgs false
namespace Go.Proofs.YteibjmlimcpaoaaGreatDoor
open Go.RowKit Go.Sort

theorem own_kind_ne' {w : World} {k B e T size n : Nat} {v : Value} {xs : List Value} {cs : Array Value} {fz : Nat × Nat} (ho : w.ownsRow B e size v n xs) (h : w.heap[k]? = some (.cells cs T fz)) (he : T ≠ e) : v.ownBlock ≠ some k := by
  intro hk
  obtain ⟨c, fz', h2⟩ := Lib.ownsRow_kind ho k hk
  rw [h] at h2
  cases h2
  exact he rfl
def mrkT (q : Nat) : Tab := ⟨⟨#[]⟩, 0, -(q : Int)⟩
def mrkN (q : Nat) : Nm := ⟨0, 0, 0, -(q : Int), 0, 0, ⟨#[]⟩⟩
def OwnT (B q : Nat) (w : World) (v : Value) (n : Nat) : Prop := w.ownsRow B 74 3 v n (tcells (List.replicate n (mrkT q)))
def OwnN (B q : Nat) (w : World) (v : Value) (n : Nat) : Prop := w.ownsRow B 72 7 v n (ncells (List.replicate n (mrkN q)))
/-- lists that came out once: their owner's mark, where they lie, how many there are -/
structure Ent where
  q : Nat
  T : Value
  tn : Nat
  N : Value
  nn : Nat
def EntOk (B : Nat) (w : World) (e : Ent) : Prop := OwnT B e.q w e.T e.tn ∧ OwnN B e.q w e.N e.nn
def BookIs (B bb : Nat) (es : List Ent) (n : Nat) (w : World) : Prop :=
  B ≤ bb ∧ ∃ VT VN VO, w.heap[bb]? = some (.cells #[.slice none 0 0, VT, VN, .slice none 0 0, .slice none 0 0, VO, .int .i64 (n : Int)] 56 (0, 0)) ∧
    w.ownsRow B 30 1 VT es.length (es.map (·.T)) ∧ w.ownsRow B 35 1 VN es.length (es.map (·.N)) ∧ w.ownsRow B 3 1 VO es.length (es.map fun e => .int .i64 (e.q : Int)) ∧ ∀ e ∈ es, EntOk B w e


theorem info28 : (Tryz.prog.info? 30).map (fun i => (i.zero, i.size, i.bytes)) = some (some (.slice none 0 0), 1, 24) := by kernel_rfl
theorem info33 : (Tryz.prog.info? 35).map (fun i => (i.zero, i.size, i.bytes)) = some (some (.slice none 0 0), 1, 24) := by kernel_rfl
theorem info3 : (Tryz.prog.info? 3).map (fun i => (i.zero, i.size, i.bytes)) = some (some (.int .i64 0), 1, 8) := by kernel_rfl

/-- where Book.report stands -/
structure BK (w0 : World) (B bb rp tb mb : Nat) (q : Int) (RC : Array Value) (es : List Ent) (VT VN VO : Value) (LT LN LO : List Value) (w : World) : Prop where
  hB : B ≤ bb
  hBw : B ≤ w0.heap.size
  bw : Below B w0 w
  n1 : bb < rp
  n2 : rp < tb
  n3 : tb < mb
  n4 : w0.heap.size ≤ rp
  hb : w.heap[bb]? = some (.cells #[.slice none 0 0, VT, VN, .slice none 0 0, .slice none 0 0, VO, .int .i64 q] 56 (0, 0))
  hr : w.heap[rp]? = some (.cells RC 39 (0, 0))
  ht : w.heap[tb]? = some (.cells #[.string ⟨#[]⟩, .int .i64 0, .int .i64 (-q)] 74 (0, 0))
  hm : w.heap[mb]? = some (.cells #[.int .i64 0, .int .i64 0, .int .i64 0, .int .i64 (-q), .int .i64 0, .int .i64 0, .string ⟨#[]⟩] 72 (0, 0))
  o28 : w.ownsRow B 30 1 VT LT.length LT
  o33 : w.ownsRow B 35 1 VN LN.length LN
  o3 : w.ownsRow B 3 1 VO LO.length LO
  hes : ∀ e ∈ es, EntOk B w e
section
variable {w0 : World} {B bb rp tb mb : Nat} {q : Int} {RC : Array Value} {es : List Ent} {VT VN VO : Value} {LT LN LO : List Value} {w w' : World}
theorem own_any {e size n : Nat} {v : Value} {xs : List Value} (h : w.ownsRow B e size v n xs) (hb : Below w.heap.size w w') : w'.ownsRow B e size v n xs :=
  h.kept (row := none) (grown_below _ hb) (by cases hv : v.ownBlock <;> simp)
theorem BK.below (k : BK w0 B bb rp tb mb q RC es VT VN VO LT LN LO w) (hb : Below w.heap.size w w') : BK w0 B bb rp tb mb q RC es VT VN VO LT LN LO w' :=
  ⟨k.hB, k.hBw, k.bw.trans (hb.mono (Nat.le_trans k.hBw k.bw.size)), k.n1, k.n2, k.n3, k.n4, belowAt' hb k.hb, belowAt' hb k.hr, belowAt' hb k.ht, belowAt' hb k.hm, own_any k.o28 hb, own_any k.o33 hb, own_any k.o3 hb, fun e he => ⟨own_any (k.hes e he).1 hb, own_any (k.hes e he).2 hb⟩⟩
theorem BK.alloc (k : BK w0 B bb rp tb mb q RC es VT VN VO LT LN LO w) (o : Obj) : BK w0 B bb rp tb mb q RC es VT VN VO LT LN LO (w.alloc o) := k.below ((Below.refl _ _).alloc (Nat.le_refl _) _)
/-- a row of tables or names turns, and nothing else; the entries are looked at apart -/
theorem BK.step {g t : Nat} {cs : Array Value} {fz : Nat × Nat} (k : BK w0 B bb rp tb mb q RC es VT VN VO LT LN LO w) (hg : w.grownBy w' (some g)) (hc : w.heap[g]? = some (.cells cs t fz)) (ht : t = 74 ∨ t = 72) (htb : g ≠ tb) (hmb : g ≠ mb) (hBg : B ≤ g) (he : ∀ e ∈ es, EntOk B w' e) :
    BK w0 B bb rp tb mb q RC es VT VN VO LT LN LO w' := by
  have a1 : bb ≠ g := by rintro rfl; rw [k.hb] at hc; cases hc; omega
  have a2 : rp ≠ g := by rintro rfl; rw [k.hr] at hc; cases hc; omega
  have c28 : VT.ownBlock ≠ some g := own_kind_ne' k.o28 hc (by omega)
  have c33 : VN.ownBlock ≠ some g := own_kind_ne' k.o33 hc (by omega)
  have c3 : VO.ownBlock ≠ some g := own_kind_ne' k.o3 hc (by omega)
  exact ⟨k.hB, k.hBw, k.bw.grown hg (Nat.le_trans k.hBw k.bw.size) (fun j hj => by cases hj; exact hBg), k.n1, k.n2, k.n3, k.n4, grownAt k.hb hg a1, grownAt k.hr hg a2, grownAt k.ht hg (Ne.symm htb), grownAt k.hm hg (Ne.symm hmb), k.o28.kept hg (.inr c28), k.o33.kept hg (.inr c33), k.o3.kept hg (.inr c3), he⟩
end
theorem ent_kept {B : Nat} {w w' : World} {e : Ent} {g t : Nat} {cs : Array Value} {fz : Nat × Nat} (h : EntOk B w e) (hg : w.grownBy w' (some g)) (hc : w.heap[g]? = some (.cells cs t fz)) (hT : t = 74 → e.T.ownBlock ≠ some g) (hN : t = 72 → e.N.ownBlock ≠ some g) (ht : t = 74 ∨ t = 72) : EntOk B w' e := by
  refine ⟨h.1.kept hg (.inr ?_), h.2.kept hg (.inr ?_)⟩
  · rcases ht with rfl | rfl
    · exact hT rfl
    · exact own_kind_ne' h.1 hc (by decide)
  · rcases ht with rfl | rfl
    · exact own_kind_ne' h.2 hc (by decide)
    · exact hN rfl

theorem own_mark {w : World} {B e size g n cap : Nat} {A X C vs : List Value} (h : w.ownsRow B e size (.slice (some ⟨g, 0, none⟩) n cap) n (A ++ X ++ C)) (hX : X.length = vs.length) : (setAll w g A.length vs).ownsRow B e size (.slice (some ⟨g, 0, none⟩) n cap) n (A ++ vs ++ C) := by
  obtain ⟨h1, ⟨hv, _⟩ | ⟨g', cap', cur, hv, hb, hg, hn, hm, hs, ht⟩⟩ := h
  · cases hv
  cases hv
  have hc : cur.toList = A ++ X ++ (C ++ cur.toList.drop (n * size)) := by
    rw [← List.append_assoc, ← ht]
    exact (List.take_append_drop _ _).symm
  obtain ⟨cur', e1, e2⟩ := setAll_row g e vs A.length w cur A X _ hg hc rfl hX
  have hl : (A ++ vs ++ C).length = n * size := by
    rw [← h1]
    simp only [List.length_append, hX]
  refine ⟨hl, .inr ⟨g, cap, cur', rfl, hb, e1, hn, hm, ?_, ?_⟩⟩
  · have hlc := congrArg List.length hc
    have hle := congrArg List.length e2
    simp only [List.length_append, Array.length_toList, hX] at hlc hle
    omega
  · rw [e2, ← List.append_assoc, ← hl]
    exact List.take_left
def Fr (bb : Nat) (tO nO : Option Nat) (w wr : World) : Prop := ∀ k cs t fz, w.heap[k]? = some (.cells cs t fz) → k ≠ bb → t ≠ 30 → t ≠ 35 → t ≠ 3 → some k ≠ tO → some k ≠ nO → wr.heap[k]? = some (.cells cs t fz)
theorem Fr.below {bb : Nat} {tO nO : Option Nat} {w w1 w2 : World} (h : Fr bb tO nO w w1) (hb : Below w1.heap.size w1 w2) : Fr bb tO nO w w2 :=
  fun k cs t fz a b c d e f g => belowAt' hb (h k cs t fz a b c d e f g)
theorem Fr.row {bb : Nat} {tO nO : Option Nat} {w w1 w2 : World} {g : Nat} (h : Fr bb tO nO w w1) (hg : w1.grownBy w2 (some g)) (hc : some g = tO ∨ some g = nO ∨ w.heap.size ≤ g ∨ g = bb) : Fr bb tO nO w w2 := by
  intro k cs t fz a b c d e f g'
  refine grownAt (h k cs t fz a b c d e f g') hg ?_
  rintro rfl
  rcases hc with hc | hc | hc | hc
  · exact f hc
  · exact g' hc
  · have := (Array.getElem?_eq_some_iff.1 a).1
    omega
  · exact b hc
theorem Fr.kind {bb : Nat} {tO nO : Option Nat} {w w1 w2 : World} {row : Option Nat} (h : Fr bb tO nO w w1) (hg : w1.grownBy w2 row) (hc : ∀ g, row = some g → ∃ cs t fz, w1.heap[g]? = some (.cells cs t fz) ∧ (t = 30 ∨ t = 35 ∨ t = 3)) : Fr bb tO nO w w2 := by
  intro k cs t fz a b c d e f g'
  have hk := h k cs t fz a b c d e f g'
  rw [hg.block k (Array.getElem?_eq_some_iff.1 hk).1 ?_]
  · exact hk
  · intro e2
    obtain ⟨cs', t', fz', h2, h3⟩ := hc k e2.symm
    rw [hk] at h2
    cases h2
    rcases h3 with h3 | h3 | h3
    · exact c h3
    · exact d h3
    · exact e h3
theorem grown_setAll' (g : Nat) : ∀ (vs : List Value) (i : Nat) (w w1 : World), w.grownBy w1 (some g) → w.grownBy (setAll w1 g i vs) (some g)
  | [], i, w, w1, h => h
  | v :: vs, i, w, w1, h => grown_setAll' g vs (i + 1) w _ (grown_set h i v)
theorem own_form {w : World} {B e size n : Nat} {v : Value} {xs : List Value} (h : w.ownsRow B e size v n xs) (hn : 0 < n) : ∃ g cap cs, v = .slice (some ⟨g, 0, none⟩) n cap ∧ B ≤ g ∧ w.heap[g]? = some (.cells cs e (0, 0)) := by
  obtain ⟨_, ⟨_, h0⟩ | ⟨g, cap, cur, hv, hb, hg, _⟩⟩ := h
  · omega
  · exact ⟨g, cap, cur, hv, hb, hg⟩
theorem rep_split_T (k m : Nat) (q : Nat) (l : List Tab) (x : Tab) (h : l[k]? = some x) : tcells (List.replicate k (mrkT q) ++ l.drop k) = tcells (List.replicate k (mrkT q)) ++ [.string x.tag, .int .i64 x.st, .int .i64 x.sz] ++ tcells (l.drop (k + 1)) := by
  have hlt := (List.getElem?_eq_some_iff.1 h).1
  have hx := (List.getElem?_eq_some_iff.1 h).2
  rw [List.drop_eq_getElem_cons hlt, hx, tcells_append]
  simp [tcells]
theorem rep_next_T (k q : Nat) (l : List Tab) : tcells (List.replicate (k + 1) (mrkT q) ++ l.drop (k + 1)) = tcells (List.replicate k (mrkT q)) ++ [.string ⟨#[]⟩, .int .i64 0, .int .i64 (-(q : Int))] ++ tcells (l.drop (k + 1)) := by
  rw [List.replicate_succ', tcells_append, tcells_append]
  simp [tcells, mrkT]
theorem rep_split_N (k m : Nat) (q : Nat) (l : List Nm) (x : Nm) (h : l[k]? = some x) : ncells (List.replicate k (mrkN q) ++ l.drop k) = ncells (List.replicate k (mrkN q)) ++ [.int .i64 x.pl, .int .i64 x.en, .int .i64 x.la, .int .i64 x.id, .int .i64 x.st, .int .i64 x.ms, .string x.tx] ++ ncells (l.drop (k + 1)) := by
  have hlt := (List.getElem?_eq_some_iff.1 h).1
  have hx := (List.getElem?_eq_some_iff.1 h).2
  rw [List.drop_eq_getElem_cons hlt, hx, ncells_append]
  simp [ncells]
theorem rep_next_N (k q : Nat) (l : List Nm) : ncells (List.replicate (k + 1) (mrkN q) ++ l.drop (k + 1)) = ncells (List.replicate k (mrkN q)) ++ [.int .i64 0, .int .i64 0, .int .i64 0, .int .i64 (-(q : Int)), .int .i64 0, .int .i64 0, .string ⟨#[]⟩] ++ ncells (l.drop (k + 1)) := by
  rw [List.replicate_succ', ncells_append, ncells_append]
  simp [ncells, mrkN]

theorem far_at {wa w1 : World} {B e size n : Nat} {v : Value} {xs : List Value} (ho : wa.ownsRow B e size v n xs) (hg : wa.grownBy w1 v.ownBlock) {j t : Nat} {cs : Array Value} {fz : Nat × Nat} (hj : wa.heap[j]? = some (.cells cs t fz)) (ht : t ≠ e) : w1.heap[j]? = some (.cells cs t fz) := by
  rw [hg.block j (Array.getElem?_eq_some_iff.1 hj).1 (fun e2 => own_kind_ne' ho hj ht e2.symm)]
  exact hj
theorem far_own {wa w1 : World} {B e size n B2 e2 size2 n2 : Nat} {v v2 : Value} {xs xs2 : List Value} (ho : wa.ownsRow B e size v n xs) (hg : wa.grownBy w1 v.ownBlock) (ho2 : wa.ownsRow B2 e2 size2 v2 n2 xs2) (hne : e ≠ e2) : w1.ownsRow B2 e2 size2 v2 n2 xs2 := by
  refine ho2.kept hg ?_
  cases hv : v.ownBlock with
  | none => cases v2.ownBlock <;> simp
  | some g =>
    obtain ⟨c, fz, h2⟩ := Lib.ownsRow_kind ho g hv
    exact .inr (own_kind_ne' ho2 h2 hne)
/-- where the third loop of Book.report stands -/
structure RB (w0 : World) (B bb rp tb mb q : Nat) (RC : Array Value) (tO nO : Option Nat) (es : List Ent) (VT VN VO : Value) (LT LN LO : List Value) (l : Value) (ln : Nat) (k : Value) (kn : Nat) (w : World) : Prop where
  bk : BK w0 B bb rp tb mb (q : Int) RC es VT VN VO LT LN LO w
  fr : Fr bb tO nO w0 w
  oT : OwnT B q w l ln
  oN : OwnN B q w k kn
  hlT : ∀ j, l.ownBlock = some j → (some j = tO ∧ j < w0.heap.size) ∨ mb < j
  hlN : ∀ j, k.ownBlock = some j → (some j = nO ∧ j < w0.heap.size) ∨ mb < j
  hdT : ∀ e ∈ es, l.ownBlock = none ∨ e.T.ownBlock ≠ l.ownBlock ∨ (e.q = q ∧ e.tn ≤ ln)
  hdN : ∀ e ∈ es, k.ownBlock = none ∨ e.N.ownBlock ≠ k.ownBlock ∨ (e.q = q ∧ e.nn ≤ kn)
section
variable {w0 w wa w1 : World} {B bb rp tb mb q : Nat} {RC : Array Value} {tO nO : Option Nat} {es : List Ent} {VT VN VO : Value} {LT LN LO : List Value} {l : Value} {ln : Nat} {k : Value} {kn : Nat}
theorem RB.below (r : RB w0 B bb rp tb mb q RC tO nO es VT VN VO LT LN LO l ln k kn w) (hb : Below w.heap.size w wa) : RB w0 B bb rp tb mb q RC tO nO es VT VN VO LT LN LO l ln k kn wa :=
  ⟨r.bk.below hb, r.fr.below hb, own_any r.oT hb, own_any r.oN hb, r.hlT, r.hlN, r.hdT, r.hdN⟩
theorem RB.push28 {v' x : Value} (r0 : RB w0 B bb rp tb mb q RC tO nO es VT VN VO LT LN LO l ln k kn w) (hb : Below w.heap.size w wa) (hg : wa.grownBy w1 VT.ownBlock) (ho : w1.ownsRow B 30 1 v' (LT.length + 1) (LT ++ [x])) :
    w1.heap[bb]? = some (.cells #[.slice none 0 0, VT, VN, .slice none 0 0, .slice none 0 0, VO, .int .i64 q] 56 (0, 0)) ∧ RB w0 B bb rp tb mb q RC tO nO es v' VN VO (LT ++ [x]) LN LO l ln k kn (w1.setCell ⟨bb, 1, none⟩ v') := by
  have r := r0.below hb
  have k := r.bk
  have hb1 := far_at k.o28 hg k.hb (by decide)
  refine ⟨hb1, ?_⟩
  have gs : w1.grownBy (w1.setCell ⟨bb, 1, none⟩ v') (some bb) := grown_set (World.grownBy.refl _ _) _ _
  have keep : ∀ {e2 size2 n2 : Nat} {v2 : Value} {xs2 : List Value}, w1.ownsRow B e2 size2 v2 n2 xs2 → 56 ≠ e2 → (w1.setCell ⟨bb, 1, none⟩ v').ownsRow B e2 size2 v2 n2 xs2 := fun h hne => h.kept gs (.inr (own_kind_ne' h hb1 hne))
  have n1 := k.n1
  have n2 := k.n2
  have n3 := k.n3
  refine ⟨⟨k.hB, k.hBw, (k.bw.grown hg (Nat.le_trans k.hBw k.bw.size) (fun j hj => (k.o28.lt j hj).1)).grown gs (Nat.le_trans (Nat.le_trans k.hBw k.bw.size) hg.size) (fun j hj => by cases hj; exact k.hB), k.n1, k.n2, k.n3, k.n4, setCell_row hb1 _, grownAt (far_at k.o28 hg k.hr (by decide)) gs (by omega), grownAt (far_at k.o28 hg k.ht (by decide)) gs (by omega), grownAt (far_at k.o28 hg k.hm (by decide)) gs (by omega), by rw [List.length_append]; exact keep ho (by decide), keep (far_own k.o28 hg k.o33 (by decide)) (by decide), keep (far_own k.o28 hg k.o3 (by decide)) (by decide), fun e he => ⟨keep (far_own k.o28 hg (k.hes e he).1 (by decide)) (by decide), keep (far_own k.o28 hg (k.hes e he).2 (by decide)) (by decide)⟩⟩, ?_, keep (far_own k.o28 hg r.oT (by decide)) (by decide), keep (far_own k.o28 hg r.oN (by decide)) (by decide), r.hlT, r.hlN, r.hdT, r.hdN⟩
  refine (r.fr.kind hg (fun g e => ?_)).row gs (.inr (.inr (.inr rfl)))
  obtain ⟨c, fz, h⟩ := Lib.ownsRow_kind k.o28 g e
  exact ⟨c, 30, fz, h, .inl rfl⟩
theorem RB.push33 {v' x : Value} (r0 : RB w0 B bb rp tb mb q RC tO nO es VT VN VO LT LN LO l ln k kn w) (hb : Below w.heap.size w wa) (hg : wa.grownBy w1 VN.ownBlock) (ho : w1.ownsRow B 35 1 v' (LN.length + 1) (LN ++ [x])) :
    w1.heap[bb]? = some (.cells #[.slice none 0 0, VT, VN, .slice none 0 0, .slice none 0 0, VO, .int .i64 q] 56 (0, 0)) ∧ RB w0 B bb rp tb mb q RC tO nO es VT v' VO LT (LN ++ [x]) LO l ln k kn (w1.setCell ⟨bb, 2, none⟩ v') := by
  have r := r0.below hb
  have k := r.bk
  have hb1 := far_at k.o33 hg k.hb (by decide)
  refine ⟨hb1, ?_⟩
  have gs : w1.grownBy (w1.setCell ⟨bb, 2, none⟩ v') (some bb) := grown_set (World.grownBy.refl _ _) _ _
  have keep : ∀ {e2 size2 n2 : Nat} {v2 : Value} {xs2 : List Value}, w1.ownsRow B e2 size2 v2 n2 xs2 → 56 ≠ e2 → (w1.setCell ⟨bb, 2, none⟩ v').ownsRow B e2 size2 v2 n2 xs2 := fun h hne => h.kept gs (.inr (own_kind_ne' h hb1 hne))
  have n1 := k.n1
  have n2 := k.n2
  have n3 := k.n3
  refine ⟨⟨k.hB, k.hBw, (k.bw.grown hg (Nat.le_trans k.hBw k.bw.size) (fun j hj => (k.o33.lt j hj).1)).grown gs (Nat.le_trans (Nat.le_trans k.hBw k.bw.size) hg.size) (fun j hj => by cases hj; exact k.hB), k.n1, k.n2, k.n3, k.n4, setCell_row hb1 _, grownAt (far_at k.o33 hg k.hr (by decide)) gs (by omega), grownAt (far_at k.o33 hg k.ht (by decide)) gs (by omega), grownAt (far_at k.o33 hg k.hm (by decide)) gs (by omega), keep (far_own k.o33 hg k.o28 (by decide)) (by decide), by rw [List.length_append]; exact keep ho (by decide), keep (far_own k.o33 hg k.o3 (by decide)) (by decide), fun e he => ⟨keep (far_own k.o33 hg (k.hes e he).1 (by decide)) (by decide), keep (far_own k.o33 hg (k.hes e he).2 (by decide)) (by decide)⟩⟩, ?_, keep (far_own k.o33 hg r.oT (by decide)) (by decide), keep (far_own k.o33 hg r.oN (by decide)) (by decide), r.hlT, r.hlN, r.hdT, r.hdN⟩
  refine (r.fr.kind hg (fun g e => ?_)).row gs (.inr (.inr (.inr rfl)))
  obtain ⟨c, fz, h⟩ := Lib.ownsRow_kind k.o33 g e
  exact ⟨c, 35, fz, h, .inr (.inl rfl)⟩
theorem RB.push3 {v' x : Value} (r0 : RB w0 B bb rp tb mb q RC tO nO es VT VN VO LT LN LO l ln k kn w) (hb : Below w.heap.size w wa) (hg : wa.grownBy w1 VO.ownBlock) (ho : w1.ownsRow B 3 1 v' (LO.length + 1) (LO ++ [x])) :
    w1.heap[bb]? = some (.cells #[.slice none 0 0, VT, VN, .slice none 0 0, .slice none 0 0, VO, .int .i64 q] 56 (0, 0)) ∧ RB w0 B bb rp tb mb q RC tO nO es VT VN v' LT LN (LO ++ [x]) l ln k kn (w1.setCell ⟨bb, 5, none⟩ v') := by
  have r := r0.below hb
  have k := r.bk
  have hb1 := far_at k.o3 hg k.hb (by decide)
  refine ⟨hb1, ?_⟩
  have gs : w1.grownBy (w1.setCell ⟨bb, 5, none⟩ v') (some bb) := grown_set (World.grownBy.refl _ _) _ _
  have keep : ∀ {e2 size2 n2 : Nat} {v2 : Value} {xs2 : List Value}, w1.ownsRow B e2 size2 v2 n2 xs2 → 56 ≠ e2 → (w1.setCell ⟨bb, 5, none⟩ v').ownsRow B e2 size2 v2 n2 xs2 := fun h hne => h.kept gs (.inr (own_kind_ne' h hb1 hne))
  have n1 := k.n1
  have n2 := k.n2
  have n3 := k.n3
  refine ⟨⟨k.hB, k.hBw, (k.bw.grown hg (Nat.le_trans k.hBw k.bw.size) (fun j hj => (k.o3.lt j hj).1)).grown gs (Nat.le_trans (Nat.le_trans k.hBw k.bw.size) hg.size) (fun j hj => by cases hj; exact k.hB), k.n1, k.n2, k.n3, k.n4, setCell_row hb1 _, grownAt (far_at k.o3 hg k.hr (by decide)) gs (by omega), grownAt (far_at k.o3 hg k.ht (by decide)) gs (by omega), grownAt (far_at k.o3 hg k.hm (by decide)) gs (by omega), keep (far_own k.o3 hg k.o28 (by decide)) (by decide), keep (far_own k.o3 hg k.o33 (by decide)) (by decide), by rw [List.length_append]; exact keep ho (by decide), fun e he => ⟨keep (far_own k.o3 hg (k.hes e he).1 (by decide)) (by decide), keep (far_own k.o3 hg (k.hes e he).2 (by decide)) (by decide)⟩⟩, ?_, keep (far_own k.o3 hg r.oT (by decide)) (by decide), keep (far_own k.o3 hg r.oN (by decide)) (by decide), r.hlT, r.hlN, r.hdT, r.hdN⟩
  refine (r.fr.kind hg (fun g e => ?_)).row gs (.inr (.inr (.inr rfl)))
  obtain ⟨c, fz, h⟩ := Lib.ownsRow_kind k.o3 g e
  exact ⟨c, 3, fz, h, .inr (.inr rfl)⟩
/-- the lists as they lie now stand in the book -/
theorem RB.entry (r : RB w0 B bb rp tb mb q RC tO nO es VT VN VO LT LN LO l ln k kn w) : RB w0 B bb rp tb mb q RC tO nO (es ++ [⟨q, l, ln, k, kn⟩]) VT VN VO LT LN LO l ln k kn w := by
  obtain ⟨⟨a1, a2, a3, a4, a5, a6, a7, a8, a9, a10, a11, a12, a13, a14, a15⟩, b2, b3, b4, b5, b6, b7, b8⟩ := r
  refine ⟨⟨a1, a2, a3, a4, a5, a6, a7, a8, a9, a10, a11, a12, a13, a14, ?_⟩, b2, b3, b4, b5, b6, ?_, ?_⟩
  · intro e he
    rcases List.mem_append.1 he with he | he
    · exact a15 e he
    · rw [List.mem_singleton.1 he]
      exact ⟨b3, b4⟩
  · intro e he
    rcases List.mem_append.1 he with he | he
    · exact b7 e he
    · rw [List.mem_singleton.1 he]
      exact .inr (.inr ⟨rfl, Nat.le_refl _⟩)
  · intro e he
    rcases List.mem_append.1 he with he | he
    · exact b8 e he
    · rw [List.mem_singleton.1 he]
      exact .inr (.inr ⟨rfl, Nat.le_refl _⟩)
end
theorem own_prefix {w w1 : World} {B e size g cap n m m' : Nat} {v : Value} {xs xs' ys : List Value} (hsz : 0 < size) (h : w.ownsRow B e size v n xs) (hv : v.ownBlock = some g) (h1 : w.ownsRow B e size (.slice (some ⟨g, 0, none⟩) m cap) m ys) (h' : w1.ownsRow B e size (.slice (some ⟨g, 0, none⟩) m' cap) m' xs') (hn : n ≤ m') (hx : xs'.take (n * size) = xs) : w1.ownsRow B e size v n xs := by
  obtain ⟨a1, ⟨rfl, _⟩ | ⟨g', cap', cur, rfl, b1, b2, b3, b4, b5, b6⟩⟩ := h
  · cases hv
  cases hv
  obtain ⟨_, ⟨hc, _⟩ | ⟨g2, cap2, cur2, hc, c1, c2, c3, c4, c5, c6⟩⟩ := h1
  · cases hc
  cases hc
  rw [b2] at c2
  cases c2
  obtain ⟨_, ⟨hc, _⟩ | ⟨g3, cap3, cur3, hc, d1, d2, d3, d4, d5, d6⟩⟩ := h'
  · cases hc
  cases hc
  have : cap' = cap := Nat.eq_of_mul_eq_mul_right hsz (b5.symm.trans c5)
  subst this
  refine ⟨a1, .inr ⟨_, _, cur3, rfl, b1, d2, b3, b4, d5, ?_⟩⟩
  rw [← hx, ← d6, List.take_take, Nat.min_eq_left (Nat.mul_le_mul_right _ hn)]
theorem tcells_rep (a b q : Nat) : tcells (List.replicate (a + b) (mrkT q)) = tcells (List.replicate a (mrkT q)) ++ tcells (List.replicate b (mrkT q)) := by
  rw [← List.replicate_append_replicate, tcells_append]
theorem ncells_rep (a b q : Nat) : ncells (List.replicate (a + b) (mrkN q)) = ncells (List.replicate a (mrkN q)) ++ ncells (List.replicate b (mrkN q)) := by
  rw [← List.replicate_append_replicate, ncells_append]
theorem tcells_take (a n q : Nat) (h : a ≤ n) : (tcells (List.replicate n (mrkT q))).take (a * 3) = tcells (List.replicate a (mrkT q)) := by
  obtain ⟨b, rfl⟩ : ∃ b, n = a + b := ⟨n - a, by omega⟩
  rw [tcells_rep]
  have : a * 3 = (tcells (List.replicate a (mrkT q))).length := by rw [tcells_length, List.length_replicate]
  rw [this]
  exact List.take_left
theorem ncells_take (a n q : Nat) (h : a ≤ n) : (ncells (List.replicate n (mrkN q))).take (a * 7) = ncells (List.replicate a (mrkN q)) := by
  obtain ⟨b, rfl⟩ : ∃ b, n = a + b := ⟨n - a, by omega⟩
  rw [ncells_rep]
  have : a * 7 = (ncells (List.replicate a (mrkN q))).length := by rw [ncells_length, List.length_replicate]
  rw [this]
  exact List.take_left
section
variable {w0 w wa w1 : World} {B bb rp tb mb q : Nat} {RC : Array Value} {tO nO : Option Nat} {es : List Ent} {VT VN VO : Value} {LT LN LO : List Value} {l : Value} {ln : Nat} {k : Value} {kn : Nat}
theorem RB.pushT {g cap : Nat} (r0 : RB w0 B bb rp tb mb q RC tO nO es VT VN VO LT LN LO l ln k kn w) (hb : Below w.heap.size w wa) (ho : w1.ownsRow B 74 3 (.slice (some ⟨g, 0, none⟩) (ln + 1) cap) (ln + 1) (tcells (List.replicate ln (mrkT q)) ++ [.string ⟨#[]⟩, .int .i64 0, .int .i64 (-(q : Int))]))
    (hal : (l = .slice (some ⟨g, 0, none⟩) ln cap ∧ wa.grownBy w1 (some g)) ∨ (g = wa.heap.size ∧ Below wa.heap.size wa w1)) : RB w0 B bb rp tb mb q RC tO nO es VT VN VO LT LN LO (.slice (some ⟨g, 0, none⟩) (ln + 1) cap) (ln + 1) k kn w1 := by
  have r := r0.below hb
  have e1 : tcells (List.replicate ln (mrkT q)) ++ [.string ⟨#[]⟩, .int .i64 0, .int .i64 (-(q : Int))] = tcells (List.replicate (ln + 1) (mrkT q)) := by
    rw [tcells_rep]
    rfl
  rw [e1] at ho
  have ho' : OwnT B q w1 (.slice (some ⟨g, 0, none⟩) (ln + 1) cap) (ln + 1) := ho
  have n3 := r.bk.n3
  have n2 := r.bk.n2
  have n4 := r.bk.n4
  rcases hal with ⟨hv, hg⟩ | ⟨hgs, hg⟩
  · have hvo : l.ownBlock = some g := by rw [hv]; rfl
    obtain ⟨cs, fz, hc⟩ := Lib.ownsRow_kind r.oT g hvo
    have hBg := (r.oT.lt g hvo).1
    have hpl := r.hlT g hvo
    have bk1 : BK w0 B bb rp tb mb (q : Int) RC es VT VN VO LT LN LO w1 := by
      refine r.bk.step hg hc (by decide) (by omega) (by omega) hBg (fun e he => ⟨?_, (r.bk.hes e he).2.kept hg (.inr (own_kind_ne' (r.bk.hes e he).2 hc (by decide)))⟩)
      rcases r.hdT e he with h | h | ⟨h, h2⟩
      · rw [hvo] at h
        cases h
      · rw [hvo] at h
        exact (r.bk.hes e he).1.kept hg (.inr h)
      · by_cases hh : e.T.ownBlock = some g
        · have oX := r.oT
          unfold OwnT at oX
          rw [hv] at oX
          have hE := (r.bk.hes e he).1
          unfold OwnT at hE
          rw [h] at hE
          have := own_prefix (by decide) hE hh oX ho (by omega) (tcells_take _ _ _ (by omega))
          unfold OwnT
          rw [h]
          exact this
        · exact (r.bk.hes e he).1.kept hg (.inr hh)
    refine ⟨bk1, r.fr.row hg ?_, ho', r.oN.kept hg (.inr (own_kind_ne' r.oN hc (by decide))), ?_, r.hlN, ?_, r.hdN⟩
    · rcases hpl with h | h
      · exact .inl h.1
      · exact .inr (.inr (.inl (by omega)))
    · intro j hj
      cases hj
      exact hpl
    · intro e he
      rcases r.hdT e he with h | h | ⟨h, h2⟩
      · rw [hvo] at h
        cases h
      · rw [hvo] at h
        exact .inr (.inl h)
      · exact .inr (.inr ⟨h, by omega⟩)
  · have r2 := r.below hg
    have hm := (Array.getElem?_eq_some_iff.1 r.bk.hm).1
    refine ⟨r2.bk, r2.fr, ho', r2.oN, ?_, r2.hlN, ?_, r2.hdN⟩
    · intro j hj
      cases hj
      exact .inr (show mb < g by omega)
    · intro e he
      refine .inr (.inl ?_)
      intro h
      have := ((r.bk.hes e he).1.lt g h).2
      omega
theorem RB.pushN {g cap : Nat} (r0 : RB w0 B bb rp tb mb q RC tO nO es VT VN VO LT LN LO l ln k kn w) (hb : Below w.heap.size w wa) (ho : w1.ownsRow B 72 7 (.slice (some ⟨g, 0, none⟩) (kn + 1) cap) (kn + 1) (ncells (List.replicate kn (mrkN q)) ++ [.int .i64 0, .int .i64 0, .int .i64 0, .int .i64 (-(q : Int)), .int .i64 0, .int .i64 0, .string ⟨#[]⟩]))
    (hal : (k = .slice (some ⟨g, 0, none⟩) kn cap ∧ wa.grownBy w1 (some g)) ∨ (g = wa.heap.size ∧ Below wa.heap.size wa w1)) : RB w0 B bb rp tb mb q RC tO nO es VT VN VO LT LN LO l ln (.slice (some ⟨g, 0, none⟩) (kn + 1) cap) (kn + 1) w1 := by
  have r := r0.below hb
  have e1 : ncells (List.replicate kn (mrkN q)) ++ [.int .i64 0, .int .i64 0, .int .i64 0, .int .i64 (-(q : Int)), .int .i64 0, .int .i64 0, .string ⟨#[]⟩] = ncells (List.replicate (kn + 1) (mrkN q)) := by
    rw [ncells_rep]
    rfl
  rw [e1] at ho
  have ho' : OwnN B q w1 (.slice (some ⟨g, 0, none⟩) (kn + 1) cap) (kn + 1) := ho
  have n3 := r.bk.n3
  have n2 := r.bk.n2
  have n4 := r.bk.n4
  rcases hal with ⟨hv, hg⟩ | ⟨hgs, hg⟩
  · have hvo : k.ownBlock = some g := by rw [hv]; rfl
    obtain ⟨cs, fz, hc⟩ := Lib.ownsRow_kind r.oN g hvo
    have hBg := (r.oN.lt g hvo).1
    have hpl := r.hlN g hvo
    have bk1 : BK w0 B bb rp tb mb (q : Int) RC es VT VN VO LT LN LO w1 := by
      refine r.bk.step hg hc (by decide) (by omega) (by omega) hBg (fun e he => ⟨(r.bk.hes e he).1.kept hg (.inr (own_kind_ne' (r.bk.hes e he).1 hc (by decide))), ?_⟩)
      rcases r.hdN e he with h | h | ⟨h, h2⟩
      · rw [hvo] at h
        cases h
      · rw [hvo] at h
        exact (r.bk.hes e he).2.kept hg (.inr h)
      · by_cases hh : e.N.ownBlock = some g
        · have oX := r.oN
          unfold OwnN at oX
          rw [hv] at oX
          have hE := (r.bk.hes e he).2
          unfold OwnN at hE
          rw [h] at hE
          have := own_prefix (by decide) hE hh oX ho (by omega) (ncells_take _ _ _ (by omega))
          unfold OwnN
          rw [h]
          exact this
        · exact (r.bk.hes e he).2.kept hg (.inr hh)
    refine ⟨bk1, r.fr.row hg ?_, r.oT.kept hg (.inr (own_kind_ne' r.oT hc (by decide))), ho', r.hlT, ?_, r.hdT, ?_⟩
    · rcases hpl with h | h
      · exact .inr (.inl h.1)
      · exact .inr (.inr (.inl (by omega)))
    · intro j hj
      cases hj
      exact hpl
    · intro e he
      rcases r.hdN e he with h | h | ⟨h, h2⟩
      · rw [hvo] at h
        cases h
      · rw [hvo] at h
        exact .inr (.inl h)
      · exact .inr (.inr ⟨h, by omega⟩)
  · have r2 := r.below hg
    have hm := (Array.getElem?_eq_some_iff.1 r.bk.hm).1
    refine ⟨r2.bk, r2.fr, r2.oT, ho', r2.hlT, ?_, r2.hdT, ?_⟩
    · intro j hj
      cases hj
      exact .inr (show mb < g by omega)
    · intro e he
      refine .inr (.inl ?_)
      intro h
      have := ((r.bk.hes e he).2.lt g h).2
      omega
end
end Go.Proofs.YteibjmlimcpaoaaGreatDoor
