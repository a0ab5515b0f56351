/-
  Plain facts on the text: it is a beginning of the one with a greater limit, no longer than the limit, cut just where the whole one is longer, and made of characters in UTF-8 none of which is harmful.
-/
import Derived.Test.YteibjmlimcpaoaaDoorRefd
set_option linter.unusedVariables false
namespace Go.Proofs.YteibjmlimcpaoaaDoor.T

/-- the whole text of some characters -/
def wholeL : List (Nat × Bool) → List UInt8
  | [] => []
  | x :: r => shownL x.1 ++ wholeL r

theorem utf8_pos (n : Nat) : 1 ≤ (utf8L n).length := by
  unfold utf8L
  split
  · simp
  · split
    · simp
    · split <;> simp
theorem shown_pos (n : Nat) : 1 ≤ (shownL n).length := by
  unfold shownL
  split
  · simp
  · exact utf8_pos _

theorem tell_acc (m : Int) : ∀ (L : List (Nat × Bool)) (acc : List UInt8) (b h : Bool), ∃ d, (tell m L acc b h).1 = acc ++ d
  | [], acc, b, h => ⟨[], by simp [tell]⟩
  | x :: r, acc, b, h => by
    rw [tell]
    split
    · exact ⟨[], by simp⟩
    · obtain ⟨d, hd⟩ := tell_acc m r (acc ++ shownL x.1) (b || x.2) (h || harmB x.1)
      exact ⟨shownL x.1 ++ d, by rw [hd, List.append_assoc]⟩

theorem tell_prefix (n m : Int) (hnm : n ≤ m) : ∀ (L : List (Nat × Bool)) (acc : List UInt8) (b h : Bool), ∃ d, (tell m L acc b h).1 = (tell n L acc b h).1 ++ d
  | [], acc, b, h => ⟨[], by simp [tell]⟩
  | x :: r, acc, b, h => by
    by_cases hc : n < (acc.length : Int) + (shownL x.1).length
    · have e : tell n (x :: r) acc b h = (acc, b, h, true) := by rw [tell, if_pos hc]
      rw [e]
      exact tell_acc m (x :: r) acc b h
    · have e : tell n (x :: r) acc b h = tell n r (acc ++ shownL x.1) (b || x.2) (h || harmB x.1) := by rw [tell, if_neg hc]
      have e2 : tell m (x :: r) acc b h = tell m r (acc ++ shownL x.1) (b || x.2) (h || harmB x.1) := by rw [tell, if_neg (by omega)]
      rw [e, e2]
      exact tell_prefix n m hnm r _ _ _

theorem tell_length (n : Int) : ∀ (L : List (Nat × Bool)) (acc : List UInt8) (b h : Bool), (acc.length : Int) ≤ n → ((tell n L acc b h).1.length : Int) ≤ n
  | [], acc, b, h, ha => by simpa [tell] using ha
  | x :: r, acc, b, h, ha => by
    rw [tell]
    split
    · exact ha
    · exact tell_length n r _ _ _ (by rw [List.length_append]; omega)

theorem whole_length : ∀ (L : List (Nat × Bool)), (wholeL L).length ≤ 6 * L.length
  | [] => by simp [wholeL]
  | x :: r => by
    have := whole_length r
    have := shown_length x.1
    simp only [wholeL, List.length_append, List.length_cons]
    omega

theorem tell_whole (m : Int) : ∀ (L : List (Nat × Bool)) (acc : List UInt8) (b h : Bool), (acc.length : Int) + (wholeL L).length ≤ m → (tell m L acc b h).1 = acc ++ wholeL L ∧ (tell m L acc b h).2.2.2 = false
  | [], acc, b, h, ha => by simp [tell, wholeL]
  | x :: r, acc, b, h, ha => by
    simp only [wholeL, List.length_append] at ha
    rw [tell, if_neg (by omega)]
    have := tell_whole m r (acc ++ shownL x.1) (b || x.2) (h || harmB x.1) (by rw [List.length_append]; omega)
    simp only [wholeL]
    rw [← List.append_assoc]
    exact this

theorem tell_cutlen (n : Int) : ∀ (L : List (Nat × Bool)) (acc : List UInt8) (b h : Bool), (tell n L acc b h).2.2.2 = decide ((tell n L acc b h).1.length < acc.length + (wholeL L).length)
  | [], acc, b, h => by simp [tell, wholeL]
  | x :: r, acc, b, h => by
    have hp := shown_pos x.1
    rw [tell]
    split
    · simp only [wholeL, List.length_append]
      symm
      rw [decide_eq_true_eq]
      omega
    · have := tell_cutlen n r (acc ++ shownL x.1) (b || x.2) (h || harmB x.1)
      rw [this, List.length_append]
      simp only [wholeL, List.length_append]
      rw [Nat.add_assoc]

/-- characters that may be shown as themselves -/
def Plain (ps : List Nat) : Prop := ∀ c ∈ ps, okC c ∧ harmB (c : Int) = false

/-- their bytes -/
def bytesOf : List Nat → List UInt8
  | [] => []
  | c :: r => utf8L c ++ bytesOf r

theorem bytesOf_append (a b : List Nat) : bytesOf (a ++ b) = bytesOf a ++ bytesOf b := by
  induction a with
  | nil => rfl
  | cons x a ih => simp [bytesOf, ih]
theorem plain_append {a b : List Nat} (ha : Plain a) (hb : Plain b) : Plain (a ++ b) := by
  intro c hc
  rcases List.mem_append.1 hc with h | h
  · exact ha c h
  · exact hb c h

theorem ascii_plain : ∀ (l : List UInt8), (∀ x ∈ l, 32 ≤ x.toNat ∧ x.toNat < 127) → ∃ ps, Plain ps ∧ l = bytesOf ps
  | [], _ => ⟨[], (fun c hc => by cases hc), rfl⟩
  | x :: l, h => by
    obtain ⟨ps, hp, he⟩ := ascii_plain l (fun y hy => h y (List.mem_cons_of_mem _ hy))
    obtain ⟨h1, h2⟩ := h x (by simp)
    refine ⟨x.toNat :: ps, ?_, ?_⟩
    · intro c hc
      rcases List.mem_cons.1 hc with rfl | hc
      · refine ⟨⟨by omega, by omega⟩, ?_⟩
        simp only [harmB, decide_eq_false_iff_not]
        omega
      · exact hp c hc
    · rw [bytesOf, utf8L, if_pos (by omega), he]
      simp

theorem dig_range (k : Nat) (h : k < 16) : 32 ≤ (dig k).toNat ∧ (dig k).toNat < 127 := by
  have : ∀ i : Fin 16, 32 ≤ (dig i.val).toNat ∧ (dig i.val).toNat < 127 := by decide
  exact this ⟨k, h⟩
theorem hexT_range : ∀ (f m : Nat) (s : List UInt8), (∀ x ∈ s, 32 ≤ x.toNat ∧ x.toNat < 127) → ∀ x ∈ hexT f m s, 32 ≤ x.toNat ∧ x.toNat < 127
  | 0, m, s, h => h
  | f + 1, m, s, h => by
    rw [hexT]
    split
    · exact h
    · refine hexT_range f (m / 16) _ ?_
      intro x hx
      rcases List.mem_cons.1 hx with rfl | hx
      · exact dig_range _ (by omega)
      · exact h x hx
theorem hexL_range (n : Nat) : ∀ x ∈ hexL n, 32 ≤ x.toNat ∧ x.toNat < 127 := by
  refine hexT_range 3 n _ ?_
  intro x hx
  rcases List.mem_cons.1 hx with rfl | hx
  · exact dig_range _ (by omega)
  · cases hx

theorem shown_plain (c : Nat) (hc : okC c) : ∃ ps, Plain ps ∧ shownL (c : Int) = bytesOf ps := by
  unfold shownL
  cases hs : spelt (c : Int)
  · refine ⟨[c], ?_, ?_⟩
    · intro d hd
      obtain rfl : d = c := by simpa using hd
      simp only [spelt, Bool.or_eq_false_iff] at hs
      exact ⟨hc, hs.1⟩
    · simp [bytesOf]
  · refine ascii_plain _ ?_
    intro x hx
    simp only [if_true, List.cons_append, List.mem_cons, List.mem_append] at hx
    rcases hx with rfl | hx | rfl | hx
    · decide
    · exact hexL_range _ x hx
    · decide
    · cases hx

theorem tell_plain (n : Int) : ∀ (L : List (Nat × Bool)) (acc : List UInt8) (b h : Bool) (ps : List Nat), (∀ x ∈ L, okC x.1) → Plain ps → acc = bytesOf ps → ∃ qs, Plain qs ∧ (tell n L acc b h).1 = bytesOf qs
  | [], acc, b, h, ps, _, hp, he => ⟨ps, hp, he⟩
  | x :: r, acc, b, h, ps, ho, hp, he => by
    rw [tell]
    split
    · exact ⟨ps, hp, he⟩
    · obtain ⟨qs, hq, hx⟩ := shown_plain x.1 (ho x (by simp))
      exact tell_plain n r _ _ _ (ps ++ qs) (fun y hy => ho y (List.mem_cons_of_mem _ hy)) (plain_append hp hq) (by rw [bytesOf_append, he, hx])

theorem mark_range (a b c : Bool) : 0 ≤ markN a b c ∧ markN a b c ≤ 7 := by cases a <;> cases b <;> cases c <;> decide
theorem mark_four (a b c : Bool) : decide (4 ≤ markN a b c) = c := by cases a <;> cases b <;> cases c <;> decide

/-- all that the law asks of three texts of the same bytes -/
theorem text_facts (p q : Int) (l : List UInt8) (n m k : Int) (hn : 0 ≤ n) (hnm : n ≤ m) (hk : 16 * (l.length : Int) + 16 = k) :
    (textOf p q l m).2.2 = (textOf p q l n).2.2 ∧ (∃ d, (textOf p q l m).1 = (textOf p q l n).1 ++ d) ∧ ((textOf p q l n).1.length : Int) ≤ n ∧
    (0 ≤ (textOf p q l n).2.1 ∧ (textOf p q l n).2.1 ≤ 7) ∧ (0 ≤ (textOf p q l m).2.1 ∧ (textOf p q l m).2.1 ≤ 7) ∧
    (∃ ps, Plain ps ∧ (textOf p q l n).1 = bytesOf ps) ∧ (∃ ps, Plain ps ∧ (textOf p q l m).1 = bytesOf ps) ∧
    (((textOf p q l n).2.2 ≠ 0 ∧ (textOf p q l n).1 = [] ∧ (textOf p q l m).1 = [] ∧ (textOf p q l n).2.1 = 0 ∧ (textOf p q l m).2.1 = 0) ∨
      ((textOf p q l n).2.2 = 0 ∧ (textOf p q l k).2.1 < 4 ∧ (∃ d, (textOf p q l k).1 = (textOf p q l n).1 ++ d) ∧ decide (4 ≤ (textOf p q l n).2.1) = decide ((textOf p q l n).1.length < (textOf p q l k).1.length))) := by
  have none : ∀ c : List UInt8, Plain [] := fun _ c hc => by cases hc
  have main : ∀ L : List (Nat × Bool), L.length ≤ l.length → (∀ x ∈ L, okC x.1) →
      (∃ d, (tell m L [] false false).1 = (tell n L [] false false).1 ++ d) ∧ ((tell n L [] false false).1.length : Int) ≤ n ∧
      (∃ ps, Plain ps ∧ (tell n L [] false false).1 = bytesOf ps) ∧ (∃ ps, Plain ps ∧ (tell m L [] false false).1 = bytesOf ps) ∧
      (tell k L [] false false).2.2.2 = false ∧ (∃ d, (tell k L [] false false).1 = (tell n L [] false false).1 ++ d) ∧
      (tell n L [] false false).2.2.2 = decide ((tell n L [] false false).1.length < (tell k L [] false false).1.length) := by
    intro L hl ho
    have hw := whole_length L
    have h1 := tell_whole k L [] false false (by simp; omega)
    refine ⟨tell_prefix n m hnm L _ _ _, tell_length n L _ _ _ (by simpa using hn), tell_plain n L _ _ _ [] ho (none []) rfl, tell_plain m L _ _ _ [] ho (none []) rfl, h1.2, ?_, ?_⟩
    · by_cases hc : n ≤ k
      · exact tell_prefix n k hc L _ _ _
      · have h2 := tell_whole n L [] false false (by simp; omega)
        exact ⟨[], by rw [h1.1, h2.1]; simp⟩
    · rw [tell_cutlen n L [] false false, h1.1]
      simp
  have bad : ∀ st : Int, st ≠ 0 → (∀ k, textOf p q l k = ([], 0, st)) → (textOf p q l m).2.2 = (textOf p q l n).2.2 ∧ (∃ d, (textOf p q l m).1 = (textOf p q l n).1 ++ d) ∧ ((textOf p q l n).1.length : Int) ≤ n ∧
    (0 ≤ (textOf p q l n).2.1 ∧ (textOf p q l n).2.1 ≤ 7) ∧ (0 ≤ (textOf p q l m).2.1 ∧ (textOf p q l m).2.1 ≤ 7) ∧
    (∃ ps, Plain ps ∧ (textOf p q l n).1 = bytesOf ps) ∧ (∃ ps, Plain ps ∧ (textOf p q l m).1 = bytesOf ps) ∧
    (((textOf p q l n).2.2 ≠ 0 ∧ (textOf p q l n).1 = [] ∧ (textOf p q l m).1 = [] ∧ (textOf p q l n).2.1 = 0 ∧ (textOf p q l m).2.1 = 0) ∨
      ((textOf p q l n).2.2 = 0 ∧ (textOf p q l k).2.1 < 4 ∧ (∃ d, (textOf p q l k).1 = (textOf p q l n).1 ++ d) ∧ decide (4 ≤ (textOf p q l n).2.1) = decide ((textOf p q l n).1.length < (textOf p q l k).1.length))) := by
    intro st hst e
    rw [e n, e m]
    exact ⟨rfl, ⟨[], rfl⟩, by simpa using hn, by simp, by simp, ⟨[], none [], rfl⟩, ⟨[], none [], rfl⟩, Or.inl ⟨hst, rfl, rfl, rfl, rfl⟩⟩
  have good : ∀ L : List (Nat × Bool), L.length ≤ l.length → (∀ x ∈ L, okC x.1) → (∀ k, textOf p q l k = ((tell k L [] false false).1, markN (tell k L [] false false).2.1 (tell k L [] false false).2.2.1 (tell k L [] false false).2.2.2, 0)) →
      (textOf p q l m).2.2 = (textOf p q l n).2.2 ∧ (∃ d, (textOf p q l m).1 = (textOf p q l n).1 ++ d) ∧ ((textOf p q l n).1.length : Int) ≤ n ∧
    (0 ≤ (textOf p q l n).2.1 ∧ (textOf p q l n).2.1 ≤ 7) ∧ (0 ≤ (textOf p q l m).2.1 ∧ (textOf p q l m).2.1 ≤ 7) ∧
    (∃ ps, Plain ps ∧ (textOf p q l n).1 = bytesOf ps) ∧ (∃ ps, Plain ps ∧ (textOf p q l m).1 = bytesOf ps) ∧
    (((textOf p q l n).2.2 ≠ 0 ∧ (textOf p q l n).1 = [] ∧ (textOf p q l m).1 = [] ∧ (textOf p q l n).2.1 = 0 ∧ (textOf p q l m).2.1 = 0) ∨
      ((textOf p q l n).2.2 = 0 ∧ (textOf p q l k).2.1 < 4 ∧ (∃ d, (textOf p q l k).1 = (textOf p q l n).1 ++ d) ∧ decide (4 ≤ (textOf p q l n).2.1) = decide ((textOf p q l n).1.length < (textOf p q l k).1.length))) := by
    intro L hl ho e
    obtain ⟨a1, a2, a3, a4, a5, a6, a7⟩ := main L hl ho
    rw [e n, e m, e k]
    refine ⟨rfl, a1, a2, mark_range _ _ _, mark_range _ _ _, a3, a4, Or.inr ⟨rfl, ?_, a6, (mark_four _ _ _).trans a7⟩⟩
    have h4 := mark_four (tell k L [] false false).2.1 (tell k L [] false false).2.2.1 (tell k L [] false false).2.2.2
    rw [a5, decide_eq_false_iff_not] at h4
    simp only [a5]
    omega
  cases h2 : twoB p q
  · cases h1 : oneB p q
    · exact bad 7 (by decide) (fun k => by unfold textOf; rw [h2, h1]; rfl)
    · exact good (letters firstN l.length l) (letters_length _ _ _) (letters_all firstN okC okN _ _) (fun k => by unfold textOf; rw [h2, h1]; rfl)
  · by_cases ho : l.length % 2 = 1
    · exact bad 6 (by decide) (fun k => by unfold textOf; rw [h2, if_pos rfl, if_pos ho])
    · exact good (letters firstW l.length l) (letters_length _ _ _) (letters_all firstW okC okW _ _) (fun k => by unfold textOf; rw [h2, if_pos rfl, if_neg ho])
end Go.Proofs.YteibjmlimcpaoaaDoor.T
