/-
  What is told of any file is right: it may be encoded, its texts are proper. No Go in it but the names of what is right.
-/
import Derived.Test.YteibjmlimcpaoaaGreatDoorDa
import Derived.Test.YteibjmlimcpaoaaGreatDoorPa
import Derived.Test.YteibjmlimcpaoaaGreatDoorTb
set_option linter.unusedVariables false
set_option linter.unusedSimpArgs false
namespace Go.Proofs.YteibjmlimcpaoaaGreatDoor.W
open T (okC Plain bytesOf byte_nat)

theorem proper_cons (f c : Nat) (l : List UInt8) (hc : okC c) (hh : harmB (c : Int) = false) (hf : (utf8L c ++ l).length ≤ f) : properGo f (utf8L c ++ l) = properGo (f - 1) l ∧ 1 ≤ (utf8L c).length := by
  obtain ⟨h0, h1⟩ := hc
  have key : ∀ n, (utf8L c).length = n → 1 ≤ n → widthOf ((utf8L c ++ l).getD 0 0).toNat = n → decT n (utf8L c ++ l) n = c → properGo f (utf8L c ++ l) = properGo (f - 1) l ∧ 1 ≤ (utf8L c).length := by
    intro n hn h1n hw hz
    refine ⟨?_, by omega⟩
    rw [properGo_step f _ (by simp; omega) hf n c hw hz, if_neg (by simp; omega), hh, if_neg (by simp), if_neg (by omega), if_neg (by omega), if_neg]
    · congr 1
      rw [← hn]
      simp
    · rw [← hn]
      simp
  by_cases a1 : c < 128
  · have e : utf8L c = [UInt8.ofNat c] := by unfold utf8L; rw [if_pos a1]
    refine key 1 (by rw [e]; rfl) (by omega) ?_ ?_
    · rw [e]
      show widthOf (UInt8.ofNat c).toNat = 1
      rw [byte_nat c (by omega)]
      unfold widthOf
      repeat' split
      all_goals omega
    · rw [e, decT_one]
      show (UInt8.ofNat c).toNat = c
      rw [byte_nat c (by omega)]
  by_cases a2 : c < 2048
  · have e : utf8L c = [UInt8.ofNat (192 + c / 64), UInt8.ofNat (128 + c % 64)] := by unfold utf8L; rw [if_neg a1, if_pos a2]
    refine key 2 (by rw [e]; rfl) (by omega) ?_ ?_
    · rw [e]
      show widthOf (UInt8.ofNat (192 + c / 64)).toNat = 2
      rw [byte_nat _ (by omega)]
      unfold widthOf
      repeat' split
      all_goals omega
    · rw [e, decT_step _ _ 1 (by omega), decT_one]
      show 64 * ((UInt8.ofNat (192 + c / 64)).toNat % 32) + (UInt8.ofNat (128 + c % 64)).toNat % 64 = c
      rw [byte_nat _ (by omega), byte_nat _ (by omega)]
      omega
  by_cases a3 : c < 65536
  · have e : utf8L c = [UInt8.ofNat (224 + c / 4096), UInt8.ofNat (128 + c / 64 % 64), UInt8.ofNat (128 + c % 64)] := by unfold utf8L; rw [if_neg a1, if_neg a2, if_pos a3]
    refine key 3 (by rw [e]; rfl) (by omega) ?_ ?_
    · rw [e]
      show widthOf (UInt8.ofNat (224 + c / 4096)).toNat = 3
      rw [byte_nat _ (by omega)]
      unfold widthOf
      repeat' split
      all_goals omega
    · rw [e, decT_step _ _ 2 (by omega), decT_step _ _ 1 (by omega), decT_one]
      show 64 * (64 * ((UInt8.ofNat (224 + c / 4096)).toNat % 16) + (UInt8.ofNat (128 + c / 64 % 64)).toNat % 64) + (UInt8.ofNat (128 + c % 64)).toNat % 64 = c
      rw [byte_nat _ (by omega), byte_nat _ (by omega), byte_nat _ (by omega)]
      omega
  · have e : utf8L c = [UInt8.ofNat (240 + c / 262144), UInt8.ofNat (128 + c / 4096 % 64), UInt8.ofNat (128 + c / 64 % 64), UInt8.ofNat (128 + c % 64)] := by unfold utf8L; rw [if_neg a1, if_neg a2, if_neg a3]
    refine key 4 (by rw [e]; rfl) (by omega) ?_ ?_
    · rw [e]
      show widthOf (UInt8.ofNat (240 + c / 262144)).toNat = 4
      rw [byte_nat _ (by omega)]
      unfold widthOf
      repeat' split
      all_goals omega
    · rw [e, decT_step _ _ 3 (by omega), decT_step _ _ 2 (by omega), decT_step _ _ 1 (by omega), decT_one]
      show 64 * (64 * (64 * ((UInt8.ofNat (240 + c / 262144)).toNat % 8) + (UInt8.ofNat (128 + c / 4096 % 64)).toNat % 64) + (UInt8.ofNat (128 + c / 64 % 64)).toNat % 64) + (UInt8.ofNat (128 + c % 64)).toNat % 64 = c
      rw [byte_nat _ (by omega), byte_nat _ (by omega), byte_nat _ (by omega), byte_nat _ (by omega)]
      omega
theorem proper_plain : ∀ (ps : List Nat) (f : Nat), Plain ps → (bytesOf ps).length ≤ f → properGo f (bytesOf ps) = true
  | [], f, _, _ => by cases f <;> rfl
  | c :: r, f, h, hf => by
    have hc := h c (List.mem_cons_self ..)
    rw [bytesOf] at hf ⊢
    obtain ⟨h1, h2⟩ := proper_cons f c (bytesOf r) hc.1 hc.2 hf
    rw [h1]
    refine proper_plain r (f - 1) (fun x hx => h x (List.mem_cons_of_mem _ hx)) ?_
    rw [List.length_append] at hf
    omega

/-- a text that is told -/
structure TxOk (n : Int) (l : List UInt8) : Prop where
  len : (l.length : Int) ≤ n
  plain : ∃ ps, Plain ps ∧ l = bytesOf ps
theorem text_ok (p e : Int) (b : List UInt8) (n : Int) (hn : 0 ≤ n) : TxOk n (textOf p e b n).1 ∧ 0 ≤ (textOf p e b n).2.1 ∧ (textOf p e b n).2.1 ≤ 7 := by
  have h := T.text_facts p e b n n _ hn (Int.le_refl _) rfl
  exact ⟨⟨h.2.2.1, h.2.2.2.2.2.1⟩, h.2.2.2.1.1, h.2.2.2.1.2⟩
theorem nil_ok (n : Int) (hn : 0 ≤ n) : TxOk n [] := ⟨by simpa using hn, [], (fun c (hc : c ∈ []) => by simp at hc), rfl⟩
theorem TxOk.proper {n : Int} {l : List UInt8} (h : TxOk n l) (hn : n ≤ 60) : properB l = true := by
  have h1 := h.len
  obtain ⟨ps, hp, rfl⟩ := h.plain
  unfold properB
  rw [if_neg (by omega)]
  exact proper_plain ps _ hp (Nat.le_refl _)
theorem nm_tx {P : Pol} {x : Nm} (h : NmB P x) (hn : 0 ≤ P.text) : TxOk P.text x.tx.data.toList ∧ 0 ≤ x.ms ∧ x.ms ≤ 7 := by
  rcases h.text with ⟨h1, h2⟩ | ⟨_, p, e, b, h1, h2, _⟩
  · rw [h1, h2]
    exact ⟨nil_ok _ hn, by decide, by decide⟩
  · rw [h1, h2]
    exact text_ok p e b P.text hn
theorem ok_text {P : Pol} (h : P.ok = true) : 1 ≤ P.text ∧ P.text ≤ 60 := by
  unfold Pol.ok at h
  simp only [Bool.and_eq_true, decide_eq_true_eq] at h
  exact h.1.1.2
theorem toB_of {top n : Int} (h : 0 ≤ n ∧ n ≤ top) : toB top n = true := by
  unfold toB
  simp [h.1, h.2]
theorem rep_right (P : Pol) (D : List UInt8) (hP : P.ok = true) (hD : D.length ≤ 2000) : (repD P D).right = true := by
  have h := rep_ok P D
  have ht := ok_text hP
  unfold Rep.right rightB
  have e1 : (repD P D).lt.all tabOk = true := by
    rw [List.all_eq_true]
    intro t ht
    have hb := h.tabs t ht
    have := hb.sz
    unfold tabOk
    rw [toB_of hb.st, toB_of ⟨hb.sz.1, by omega⟩]
    simp [hb.tag]
  have e2 : (repD P D).ln.all nmOk = true := by
    rw [List.all_eq_true]
    intro x hx
    have hb := h.names x hx
    obtain ⟨hx1, hx2, hx3⟩ := nm_tx hb (by omega)
    unfold nmOk
    rw [toB_of hb.pl, toB_of hb.en, toB_of hb.la, toB_of hb.id, toB_of hb.st, toB_of ⟨hx2, hx3⟩, hx1.proper ht.2]
    rfl
  rw [e1, e2, decide_eq_true h.nt, decide_eq_true h.nn]
  simp only [List.all_cons, List.all_nil, toB_of h.kind, toB_of h.hs, toB_of h.rs, toB_of h.nm, toB_of h.cs, toB_of h.hf, toB_of h.hu, toB_of h.rv, toB_of h.rb, toB_of h.cf, toB_of h.cc, Bool.and_self]
end Go.Proofs.YteibjmlimcpaoaaGreatDoor.W
