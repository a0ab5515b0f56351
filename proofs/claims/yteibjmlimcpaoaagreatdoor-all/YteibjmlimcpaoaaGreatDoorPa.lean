/-
  Plain functions on numbers and lists of bytes: which characters are harmful, how a number is written in hexadecimal, how a character is shown, how bytes are read as characters, and the text with its marks. No Go and no program in it.
  What is done with a file, as a plain program of steps, bytes that are read and questions whether a step was refused; what it answers under a budget, and what without one. No Go and no program in it.
  A file looked at, as a plain program: its kind, its tables, what they tell; which bytes are public. No Go and no program in it.
  How many steps and bytes the plain program takes, and where it reads. No Go and no program in it.
  What the plain program tells of tables and names: what always holds of it, how many steps it takes, where it reads. No Go and no program in it.
  What the plain program tells of names, and of the other tables: what always holds of it, how many steps it takes, where it reads. No Go and no program in it.
  What the plain program tells of a file hangs on public bytes alone; with steps enough it is the answer, else nothing. No Go and no program in it.
  What is told of a table, as functions of its bytes alone: as the document's answer reckons it; and that the plain program tells the same. No Go and no program in it.
  What always holds of a file's tables and names, under any budget. No Go and no program in it.
  The tables of a file, as the document's answer reckons them, of the file's bytes alone; and that the plain program tells the same. No Go and no program in it.
  What is told of any file keeps its bounds. No Go in it.
  The report that the document asks for is the one that the plain program tells. No Go and no program in it.
  The small file of the laws, and what is told of it. No Go in it.
-/
import Derived.KernelRfl
set_option linter.unusedVariables false
namespace Go.Proofs.YteibjmlimcpaoaaGreatDoor

/-- must a character not be shown as itself? -/
def harmB (c : Int) : Bool :=
  decide (c < 32 ∨ (127 ≤ c ∧ c ≤ 159) ∨ c = 8206 ∨ c = 8207 ∨ (8234 ≤ c ∧ c ≤ 8238) ∨ (8294 ≤ c ∧ c ≤ 8297))

/-- one hexadecimal digit -/
def dig (n : Nat) : UInt8 := if n < 10 then UInt8.ofNat (48 + n) else UInt8.ofNat (87 + n)

/-- the digits ahead of those that stand already -/
def hexT : Nat → Nat → List UInt8 → List UInt8
  | 0, _, s => s
  | f + 1, m, s => if m < 16 then s else hexT f (m / 16) (dig (m / 16 % 16) :: s)

/-- a number below 65536 in hexadecimal -/
def hexL (n : Nat) : List UInt8 := hexT 3 n [dig (n % 16)]

/-- a character in UTF-8 -/
def utf8L (c : Nat) : List UInt8 :=
  if c < 128 then [UInt8.ofNat c]
  else if c < 2048 then [UInt8.ofNat (192 + c / 64), UInt8.ofNat (128 + c % 64)]
  else if c < 65536 then [UInt8.ofNat (224 + c / 4096), UInt8.ofNat (128 + c / 64 % 64), UInt8.ofNat (128 + c % 64)]
  else [UInt8.ofNat (240 + c / 262144), UInt8.ofNat (128 + c / 4096 % 64), UInt8.ofNat (128 + c / 64 % 64), UInt8.ofNat (128 + c % 64)]

/-- spelt: a harmful one, and the sign 60 -/
def spelt (c : Int) : Bool := harmB c || c == 60

/-- a character as it is shown -/
def shownL (c : Int) : List UInt8 := if spelt c then 60 :: hexL c.toNat ++ [62] else utf8L c.toNat

/-- the first number of two bytes -/
def pairN (l : List UInt8) : Nat := 256 * (l.getD 0 0).toNat + (l.getD 1 0).toNat

/-- the first character of two bytes or four: what it is, how many bytes, is it none -/
def firstW (l : List UInt8) : Nat × Nat × Bool :=
  if pairN l < 55296 ∨ 57344 ≤ pairN l then (pairN l, 2, false)
  else if pairN l < 56320 ∧ 4 ≤ l.length ∧ 56320 ≤ pairN (l.drop 2) ∧ pairN (l.drop 2) < 57344 then (65536 + 1024 * (pairN l - 55296) + (pairN (l.drop 2) - 56320), 4, false)
  else (65533, 2, true)

/-- the first character of one byte -/
def firstN (l : List UInt8) : Nat × Nat × Bool :=
  if (l.getD 0 0).toNat < 128 then ((l.getD 0 0).toNat, 1, false) else (65533, 1, true)

/-- the characters of some bytes -/
def letters (first : List UInt8 → Nat × Nat × Bool) : Nat → List UInt8 → List (Nat × Bool)
  | 0, _ => []
  | _ + 1, [] => []
  | f + 1, a :: l => ((first (a :: l)).1, (first (a :: l)).2.2) :: letters first f ((a :: l).drop (first (a :: l)).2.1)

/-- the text, and whether something was broken, was hidden, was cut -/
def tell (limit : Int) : List (Nat × Bool) → List UInt8 → Bool → Bool → List UInt8 × Bool × Bool × Bool
  | [], acc, b, h => (acc, b, h, false)
  | x :: r, acc, b, h => if limit < (acc.length : Int) + (shownL x.1).length then (acc, b, h, true) else tell limit r (acc ++ shownL x.1) (b || x.2) (h || harmB x.1)

/-- marks as a number -/
def markN (b h c : Bool) : Int := (if b then 1 else 0) + (if h then 2 else 0) + (if c then 4 else 0)

def twoB (p e : Int) : Bool := decide (p = 0 ∨ (p = 3 ∧ (e = 1 ∨ e = 10)))
def oneB (p e : Int) : Bool := decide (p = 1 ∧ e = 0)

/-- Text: the text, its marks, its status -/
def textOf (p e : Int) (b : List UInt8) (limit : Int) : List UInt8 × Int × Int :=
  if twoB p e then
    if b.length % 2 = 1 then ([], 0, 6)
    else
      let t := tell limit (letters firstW b.length b) [] false false
      (t.1, markN t.2.1 t.2.2.1 t.2.2.2, 0)
  else if oneB p e then
    let t := tell limit (letters firstN b.length b) [] false false
    (t.1, markN t.2.1 t.2.2.1 t.2.2.2, 0)
  else ([], 0, 7)

/-- a table, a name and a report, as they are told -/
structure Tab where
  tag : ByteArray
  st : Int
  sz : Int
structure Nm where
  pl : Int
  en : Int
  la : Int
  id : Int
  st : Int
  ms : Int
  tx : ByteArray
structure Rep where
  kind : Int
  lt : List Tab
  hs : Int
  hf : Int
  hu : Int
  rs : Int
  rv : Int
  rb : Int
  nm : Int
  ln : List Nm
  cs : Int
  cf : Int
  cc : Int

end Go.Proofs.YteibjmlimcpaoaaGreatDoor

set_option linter.unusedVariables false
set_option linter.unusedSimpArgs false
namespace Go.Proofs.YteibjmlimcpaoaaGreatDoor

/-- what is done with a file: a step, a byte that is read at a place (with a step), the question whether a step was refused -/
inductive Pr (α : Type) where
  | ret (a : α)
  | tick (k : Pr α)
  | get (at_ : Nat) (k : UInt8 → Pr α)
  | ask (k : Bool → Pr α)

def Pr.bind {α β : Type} : Pr α → (α → Pr β) → Pr β
  | .ret a, f => f a
  | .tick k, f => .tick (k.bind f)
  | .get i k, f => .get i fun x => (k x).bind f
  | .ask k, f => .ask fun b => (k b).bind f

/-- a meter: steps that are left, was one refused, steps that were taken, bytes that were read -/
structure Mt where
  left : Nat
  spent : Bool
  steps : Nat
  read : Nat

def Mt.step (m : Mt) : Mt := if m.left = 0 then { m with spent := true } else ⟨m.left - 1, m.spent, m.steps + 1, m.read⟩
def Mt.reads (m : Mt) : Mt := if m.left = 0 then { m with spent := true } else ⟨m.left - 1, m.spent, m.steps + 1, m.read + 1⟩

/-- under a budget: the answer, and the meter behind it -/
def Pr.run {α : Type} (D : List UInt8) : Pr α → Mt → α × Mt
  | .ret a, m => (a, m)
  | .tick k, m => k.run D m.step
  | .get i k, m => (k (if m.left = 0 then 0 else D.getD i 0)).run D m.reads
  | .ask k, m => (k m.spent).run D m

/-- without one: the answer, and the steps, each with the place of the byte that was read -/
def Pr.ideal {α : Type} (D : List UInt8) : Pr α → α × List (Option Nat)
  | .ret a => (a, [])
  | .tick k => ((k.ideal D).1, none :: (k.ideal D).2)
  | .get i k => (((k (D.getD i 0)).ideal D).1, some i :: ((k (D.getD i 0)).ideal D).2)
  | .ask k => (k false).ideal D

theorem Pr.run_bind {α β : Type} (D : List UInt8) : ∀ (p : Pr α) (f : α → Pr β) (m : Mt), (p.bind f).run D m = (f (p.run D m).1).run D (p.run D m).2
  | .ret a, f, m => rfl
  | .tick k, f, m => by simp only [Pr.bind, Pr.run]; exact Pr.run_bind D k f _
  | .get i k, f, m => by simp only [Pr.bind, Pr.run]; exact Pr.run_bind D _ f _
  | .ask k, f, m => by simp only [Pr.bind, Pr.run]; exact Pr.run_bind D _ f _

theorem Pr.ideal_bind {α β : Type} (D : List UInt8) : ∀ (p : Pr α) (f : α → Pr β), (p.bind f).ideal D = (((f (p.ideal D).1).ideal D).1, (p.ideal D).2 ++ ((f (p.ideal D).1).ideal D).2)
  | .ret a, f => rfl
  | .tick k, f => by simp only [Pr.bind, Pr.ideal]; rw [Pr.ideal_bind D k f]; rfl
  | .get i k, f => by simp only [Pr.bind, Pr.ideal]; rw [Pr.ideal_bind D _ f]; rfl
  | .ask k, f => by simp only [Pr.bind, Pr.ideal]; rw [Pr.ideal_bind D _ f]

/-- how many bytes are read with so many steps -/
def rd (t : List (Option Nat)) : Nat := (t.filter Option.isSome).length

/-- once a step was refused nothing is counted -/
theorem Pr.run_spent {α : Type} (D : List UInt8) : ∀ (p : Pr α) (m : Mt), m.left = 0 → m.spent = true → (p.run D m).2 = m
  | .ret a, m, h, s => rfl
  | .tick k, m, h, s => by
    have e : m.step = m := by unfold Mt.step; rw [if_pos h]; cases m; simp_all
    simp only [Pr.run]
    rw [e]
    exact Pr.run_spent D k m h s
  | .get i k, m, h, s => by
    have e : m.reads = m := by unfold Mt.reads; rw [if_pos h]; cases m; simp_all
    simp only [Pr.run]
    rw [e]
    exact Pr.run_spent D _ m h s
  | .ask k, m, h, s => by
    simp only [Pr.run]
    exact Pr.run_spent D _ m h s

/-- with steps enough the answer is the one without a budget; else all steps were taken, and one was refused -/
theorem Pr.run_ideal {α : Type} (D : List UInt8) : ∀ (p : Pr α) (m : Mt), m.spent = false →
    ((p.ideal D).2.length ≤ m.left → p.run D m = ((p.ideal D).1, ⟨m.left - (p.ideal D).2.length, false, m.steps + (p.ideal D).2.length, m.read + rd (p.ideal D).2⟩)) ∧
    (m.left < (p.ideal D).2.length → (p.run D m).2 = ⟨0, true, m.steps + m.left, m.read + rd ((p.ideal D).2.take m.left)⟩)
  | .ret a, m, s => by
    obtain ⟨l, sp, st, r⟩ := m
    simp only at s
    subst s
    exact ⟨fun _ => rfl, fun h => absurd h (by simp [Pr.ideal])⟩
  | .tick k, m, s => by
    obtain ⟨l, sp, st, r⟩ := m
    simp only at s
    subst s
    simp only [Pr.ideal, Pr.run, List.length_cons]
    cases l with
    | zero =>
      refine ⟨fun h => absurd h (by omega), fun _ => ?_⟩
      rw [Pr.run_spent D k _ rfl rfl]
      simp [Mt.step, rd]
    | succ l =>
      obtain ⟨h1, h2⟩ := Pr.run_ideal D k ⟨l, false, st + 1, r⟩ rfl
      have e : (Mt.mk (l + 1) false st r).step = ⟨l, false, st + 1, r⟩ := rfl
      rw [e]
      refine ⟨fun h => ?_, fun h => ?_⟩
      · rw [h1 (by simp only; omega)]
        simp only [rd, List.filter_cons, Option.isSome, Prod.mk.injEq, true_and, Mt.mk.injEq, and_true]
        refine ⟨by omega, by omega, rfl⟩
      · rw [h2 (by simp only; omega)]
        simp only [rd, List.take_succ_cons, List.filter_cons, Option.isSome, Mt.mk.injEq, true_and]
        refine ⟨by omega, rfl⟩
  | .get i k, m, s => by
    obtain ⟨l, sp, st, r⟩ := m
    simp only at s
    subst s
    simp only [Pr.ideal, Pr.run, List.length_cons]
    cases l with
    | zero =>
      refine ⟨fun h => absurd h (by omega), fun _ => ?_⟩
      rw [if_pos rfl, Pr.run_spent D _ _ rfl rfl]
      simp [Mt.reads, rd]
    | succ l =>
      obtain ⟨h1, h2⟩ := Pr.run_ideal D (k (D.getD i 0)) ⟨l, false, st + 1, r + 1⟩ rfl
      have e : (Mt.mk (l + 1) false st r).reads = ⟨l, false, st + 1, r + 1⟩ := rfl
      rw [e, if_neg (by simp)]
      refine ⟨fun h => ?_, fun h => ?_⟩
      · rw [h1 (by simp only; omega)]
        simp only [rd, List.filter_cons, Option.isSome, Prod.mk.injEq, true_and, Mt.mk.injEq, and_true, if_true, List.length_cons]
        refine ⟨by omega, by omega, by omega⟩
      · rw [h2 (by simp only; omega)]
        simp only [rd, List.take_succ_cons, List.filter_cons, Option.isSome, Mt.mk.injEq, true_and, if_true, List.length_cons]
        refine ⟨by omega, by omega⟩
  | .ask k, m, s => by
    obtain ⟨l, sp, st, r⟩ := m
    simp only at s
    subst s
    simp only [Pr.ideal, Pr.run]
    exact Pr.run_ideal D (k false) ⟨l, false, st, r⟩ rfl

/-- two files that are the same at all places that are read of the first give the same -/
theorem Pr.ideal_same {α : Type} (D E : List UInt8) : ∀ (p : Pr α), (∀ i, some i ∈ (p.ideal D).2 → D.getD i 0 = E.getD i 0) → p.ideal E = p.ideal D
  | .ret a, h => rfl
  | .tick k, h => by
    simp only [Pr.ideal] at h ⊢
    rw [Pr.ideal_same D E k fun i hi => h i (List.mem_cons_of_mem _ hi)]
  | .get i k, h => by
    simp only [Pr.ideal] at h ⊢
    rw [← h i (List.mem_cons_self ..), Pr.ideal_same D E _ fun j hj => h j (List.mem_cons_of_mem _ hj)]
  | .ask k, h => by
    simp only [Pr.ideal] at h ⊢
    exact Pr.ideal_same D E _ h

end Go.Proofs.YteibjmlimcpaoaaGreatDoor

set_option linter.unusedVariables false
namespace Go.Proofs.YteibjmlimcpaoaaGreatDoor

/-- a policy -/
structure Pol where
  tags : List (List UInt8)
  ids : List Int
  text : Int

def tagB (t : List UInt8) : Bool := decide (t.length = 4) && t.all fun c => decide (32 ≤ c.toNat ∧ c.toNat ≤ 126)
def idB (i : Int) : Bool := decide (0 ≤ i ∧ i ≤ 65535)
def Pol.ok (P : Pol) : Bool := decide (P.tags.length ≤ 8) && decide (P.ids.length ≤ 8) && decide (1 ≤ P.text ∧ P.text ≤ 60) && P.tags.all tagB && P.ids.all idB

/-- a window: where it begins in the file, its size -/
structure Wn where
  b : Nat
  s : Nat

def Wn.cut (t : Wn) (begin size : Nat) : Wn := ⟨t.b + min begin t.s, min size (t.s - min begin t.s)⟩
def holdsB (whole begin size : Nat) : Bool := decide (begin ≤ whole ∧ size ≤ whole - begin)
def Wn.shares (t o : Wn) : Bool := decide (max t.b o.b < min (t.b + t.s) (o.b + o.s))

/-- a byte of a window -/
def Wn.byte (t : Wn) (i : Nat) : Pr Nat := if i < t.s then .get (t.b + i) fun x => .ret x.toNat else .ret 0
def Wn.two (t : Wn) (i : Nat) : Pr Nat := (t.byte i).bind fun x => (t.byte (i + 1)).bind fun y => .ret (256 * x + y)
def Wn.four (t : Wn) (i : Nat) : Pr Nat := (t.two i).bind fun x => (t.two (i + 2)).bind fun y => .ret (65536 * x + y)
def bytesAt : Nat → Nat → Pr (List UInt8)
  | i, 0 => .ret []
  | i, n + 1 => .ask fun sp => if sp then .ret [] else .get i fun x => (bytesAt (i + 1) n).bind fun l => .ret (x :: l)
def Wn.bytes (t : Wn) : Pr (List UInt8) := bytesAt t.b t.s

def kindOf (o : List UInt8) : Nat :=
  if o = [0, 1, 0, 0] ∨ o = [116, 114, 117, 101] then 1
  else if o = [79, 84, 84, 79] then 2
  else if o = [116, 116, 99, 102] ∨ o = [119, 79, 70, 70] ∨ o = [119, 79, 70, 50] then 3
  else 0

/-- a table: as it is told, and its window -/
structure Tw where
  tag : List UInt8
  st : Nat
  size : Nat
  v : Wn

/-- byte by byte: is the first not above the second? -/
def leL : List UInt8 → List UInt8 → Bool
  | [], _ => true
  | _ :: _, [] => false
  | a :: l, b :: r => if a < b then true else if b < a then false else leL l r

def sharedP (v : Wn) : List Tw → Pr Bool
  | [] => .ret false
  | t :: l => .tick (if (t.st = 0 ∨ t.st = 4) ∧ v.shares t.v = true then .ret true else sharedP v l)

def lastTag (l : List Tw) : Option (List UInt8) := l.getLast?.map Tw.tag

def statusP (P : Pol) (l : List Tw) (tag : List UInt8) (v : Wn) (inside : Bool) : Pr Nat :=
  if (match lastTag l with | some x => leL tag x | none => false) = true then .ret 1
  else if inside = false then .ret 2
  else (sharedP v l).bind fun sh => .ret (if sh then 3 else if P.tags.contains tag then 4 else 0)

def addP (P : Pol) (n e : Nat) (l : List Tw) (r : Wn) : Pr (List Tw) :=
  (r.cut 0 4).bytes.bind fun tag => (r.four 8).bind fun begin => (r.four 12).bind fun size =>
    let inside := decide (e ≤ begin) && holdsB n begin size
    let v : Wn := if inside then ⟨begin, size⟩ else ⟨0, 0⟩
    (statusP P l tag v inside).bind fun st => .ret (l ++ [⟨tag, st, v.s, v⟩])

def addsP (P : Pol) (n : Nat) (recs : Wn) : Nat → Nat → List Tw → Pr (List Tw)
  | 0, i, l => .ret l
  | k + 1, i, l => (addP P n (recs.b + recs.s) l (recs.cut (16 * i) 16)).bind fun l' => addsP P n recs k (i + 1) l'

/-- what a file tells of its tables; is there a window on it -/
structure Dir where
  kind : Nat
  here : Bool
  recs : Wn
  tabs : List Tw

def openP (P : Pol) (n : Nat) : Pr Dir :=
  if n < 12 then .ret ⟨0, false, ⟨0, 0⟩, []⟩
  else (Wn.bytes ⟨0, 4⟩).bind fun o =>
    if kindOf o = 1 ∨ kindOf o = 2 then
      (Wn.two ⟨0, 12⟩ 4).bind fun c =>
        if 16 < c ∨ holdsB n 12 (16 * c) = false then .ret ⟨0, false, ⟨0, 0⟩, []⟩
        else (addsP P n ⟨12, 16 * c⟩ c 0 []).bind fun l => .ret ⟨kindOf o, true, ⟨12, 16 * c⟩, l⟩
    else .ret ⟨kindOf o, false, ⟨0, 0⟩, []⟩

/-- the table of a tag: its window, its status -/
def tableOf (tag : List UInt8) : List Tw → Wn × Nat
  | [] => (⟨0, 0⟩, 8)
  | t :: l => if t.tag = tag then (t.v, t.st) else tableOf tag l

/-- how many records, and what became of it -/
def countP (t : Wn) (first size : Nat) : Pr (Nat × Nat) :=
  if t.s < first then .ret (0, 5)
  else (t.two 0).bind fun z => if z ≠ 0 then .ret (0, 7)
    else (t.two 2).bind fun c => if 20 < c then .ret (0, 6)
      else if holdsB t.s first (size * c) = true then .ret (c, 0) else .ret (0, 5)

structure Nw where
  pl : Nat
  en : Nat
  la : Nat
  id : Nat
  st : Nat
  v : Wn

def nameP (P : Pol) (t : Wn) (texts : Nat) (r : Wn) : Pr Nw :=
  (r.two 0).bind fun pl => (r.two 2).bind fun en => (r.two 4).bind fun la => (r.two 6).bind fun id => (r.two 8).bind fun size => (r.two 10).bind fun at_ =>
    .ret ⟨pl, en, la, id, if P.ids.contains (id : Int) then 4 else if holdsB t.s (texts + at_) size = true then 0 else 2, t.cut (texts + at_) size⟩

def namesP (P : Pol) (t : Wn) (texts : Nat) : Nat → Nat → List Nw → Pr (List Nw)
  | 0, i, l => .ret l
  | k + 1, i, l => (nameP P t texts (t.cut (6 + 12 * i) 12)).bind fun x => namesP P t texts k (i + 1) (l ++ [x])

structure Ns where
  st : Nat
  here : Bool
  ahead : Wn
  list : List Nw

def namingP (P : Pol) (l : List Tw) : Pr Ns :=
  let t := (tableOf [110, 97, 109, 101] l).1
  if (tableOf [110, 97, 109, 101] l).2 ≠ 0 then .ret ⟨(tableOf [110, 97, 109, 101] l).2, false, ⟨0, 0⟩, []⟩
  else (countP t 6 12).bind fun c =>
    if c.2 ≠ 0 then .ret ⟨c.2, false, ⟨0, 0⟩, []⟩
    else (t.two 4).bind fun texts => (namesP P t texts c.1 0 []).bind fun l => .ret ⟨0, true, t.cut 0 (6 + 12 * c.1), l⟩

def headP (t : Wn) (st : Nat) : Pr (Nat × Nat × Nat) :=
  if st ≠ 0 then .ret (st, 0, 0)
  else if t.s < 54 then .ret (5, 0, 0)
  else (t.cut 12 4).bytes.bind fun magic => (t.two 16).bind fun flags => (t.two 18).bind fun units =>
    if magic ≠ [95, 15, 60, 245] ∨ units < 16 ∨ 16384 < units then .ret (6, 0, 0) else .ret (0, flags, units)

/-- bits beyond 2, 4, 8, 256, 512; more than one of 2, 4, 8 -/
def otherBits (n : Nat) : Bool := decide (n % 2 ≠ 0 ∨ n / 16 % 16 ≠ 0 ∨ n / 1024 ≠ 0)
def usesOf (n : Nat) : Nat := n / 2 % 2 + n / 4 % 2 + n / 8 % 2

def rightsP (t : Wn) (st : Nat) : Pr (Nat × Nat × Nat) :=
  if st ≠ 0 then .ret (st, 0, 0)
  else if t.s < 10 then .ret (5, 0, 0)
  else (t.two 0).bind fun version => (t.two 8).bind fun set =>
    if 5 < version then .ret (7, 0, 0)
    else if otherBits set = true ∨ (3 ≤ version ∧ 1 < usesOf set) then .ret (6, 0, 0)
    else .ret (0, version, set)

def rankOf (p e : Nat) : Nat := if p = 3 ∧ e = 10 then 0 else if p = 0 then 1 else if p = 3 ∧ e = 1 then 2 else 3

def partsP (t : Wn) : Nat → Nat → Nat → Nat → Pr (Nat × Nat)
  | 0, i, best, begin => .ret (best, begin)
  | k + 1, i, best, begin =>
    ((t.cut (4 + 8 * i) 8).two 0).bind fun p => ((t.cut (4 + 8 * i) 8).two 2).bind fun e =>
      if rankOf p e < best then ((t.cut (4 + 8 * i) 8).four 4).bind fun b => partsP t k (i + 1) (rankOf p e) b
      else partsP t k (i + 1) best begin

def partP (t : Wn) : Pr (Wn × Nat) :=
  (countP t 4 8).bind fun c =>
    if c.2 ≠ 0 then .ret (⟨0, 0⟩, c.2)
    else (partsP t c.1 0 3 0).bind fun r =>
      if r.1 = 3 then .ret (⟨0, 0⟩, 7)
      else if (t.cut r.2 t.s).s < 2 then .ret (⟨0, 0⟩, 5)
      else .ret (t.cut r.2 t.s, 0)

/-- ranges: how many numbers, the last one's last; none: they do not rise -/
def rangesP (bounds : Nat → Pr (Nat × Nat)) : Nat → Nat → Nat → Int → Pr (Option (Nat × Int))
  | 0, i, count, e => .ret (some (count, e))
  | k + 1, i, count, e => (bounds i).bind fun x =>
    if x.2 < x.1 ∨ (x.1 : Int) ≤ e then .ret none else rangesP bounds k (i + 1) (count + (x.2 - x.1 + 1)) (x.2 : Int)

def smallP (v : Wn) (twice : Nat) (i : Nat) : Pr (Nat × Nat) := (v.two (16 + twice + 2 * i)).bind fun a => (v.two (14 + 2 * i)).bind fun b => .ret (a, b)
def greatP (v : Wn) (i : Nat) : Pr (Nat × Nat) := (v.four (16 + 12 * i)).bind fun a => (v.four (20 + 12 * i)).bind fun b => .ret (a, b)

/-- how many, and what became of it -/
def countSmallP (v : Wn) : Pr (Int × Nat) :=
  (v.two 2).bind fun size => (v.two 6).bind fun twice =>
    if size < 16 ∨ v.s < size then .ret (0, 5)
    else if twice = 0 ∨ twice % 2 ≠ 0 then .ret (0, 6)
    else if size < 16 + 4 * twice then .ret (0, 5)
    else (rangesP (smallP v twice) (twice / 2) 0 0 (-1)).bind fun r =>
      match r with
      | none => .ret (0, 6)
      | some (n, e) => if e ≠ 65535 then .ret (0, 6) else .ret ((n : Int) - 1, 0)
def countGreatP (v : Wn) : Pr (Int × Nat) :=
  (v.four 4).bind fun size => (v.four 12).bind fun ranges =>
    if size < 16 ∨ v.s < size ∨ size < 16 + 12 * ranges then .ret (0, 5)
    else (rangesP (greatP v) ranges 0 0 (-1)).bind fun r =>
      match r with
      | none => .ret (0, 6)
      | some (n, e) => if 1114111 < e then .ret (0, 6) else .ret ((n : Int), 0)

def coverP (t : Wn) (st : Nat) : Pr (Nat × Nat × Int) :=
  if st ≠ 0 then .ret (st, 0, 0)
  else (partP t).bind fun p => if p.2 ≠ 0 then .ret (p.2, 0, 0)
    else (p.1.two 0).bind fun form =>
      (if form = 4 then countSmallP p.1 else if form = 12 then countGreatP p.1 else .ret (0, 7)).bind fun c =>
        if c.2 ≠ 0 then .ret (c.2, 0, 0) else .ret (0, form, c.1)

def toldP (limit : Int) (x : Nw) : Pr Nm :=
  if x.st = 0 then x.v.bytes.bind fun b => let r := textOf x.pl x.en b limit; .ret ⟨x.pl, x.en, x.la, x.id, r.2.2, r.2.1, ⟨r.1.toArray⟩⟩
  else .ret ⟨x.pl, x.en, x.la, x.id, x.st, 0, ⟨#[]⟩⟩
def toldsP (limit : Int) : List Nw → List Nm → Pr (List Nm)
  | [], acc => .ret acc
  | x :: l, acc => (toldP limit x).bind fun y => toldsP limit l (acc ++ [y])

def tabOf (t : Tw) : Tab := ⟨⟨t.tag.toArray⟩, t.st, t.size⟩

def tagHead : List UInt8 := [104, 101, 97, 100]
def tagOs2 : List UInt8 := [79, 83, 47, 50]
def tagCmap : List UInt8 := [99, 109, 97, 112]

def tellP (P : Pol) (n : Nat) : Pr Rep :=
  (openP P n).bind fun d => (namingP P d.tabs).bind fun ns =>
    (headP (tableOf tagHead d.tabs).1 (tableOf tagHead d.tabs).2).bind fun h =>
    (rightsP (tableOf tagOs2 d.tabs).1 (tableOf tagOs2 d.tabs).2).bind fun r =>
    (toldsP P.text ns.list []).bind fun l =>
    (coverP (tableOf tagCmap d.tabs).1 (tableOf tagCmap d.tabs).2).bind fun c =>
      .ret ⟨d.kind, d.tabs.map tabOf, h.1, h.2.1, h.2.2, r.1, r.2.1, r.2.2, ns.st, l, c.1, c.2.1, c.2.2⟩

def Rep.none : Rep := ⟨0, [], 0, 0, 0, 0, 0, 0, 0, [], 0, 0, 0⟩

/-- Inspect: the report, steps and bytes that were read, the error -/
def inspOf (P : Pol) (D : List UInt8) (budget : Int) : Rep × (Nat × Nat) × Int :=
  if P.ok = false then (Rep.none, (0, 0), 2)
  else if 2000 < D.length then (Rep.none, (0, 0), 3)
  else
    let r := (tellP P D.length).run D ⟨budget.toNat, false, 0, 0⟩
    if r.2.spent = true then (Rep.none, (r.2.steps, r.2.read), 4) else (r.1, (r.2.steps, r.2.read), 0)

/-- bytes of a list, from one to another, turned -/
def markL (v : Wn) (as_ : Bool) (l : List Bool) : List Bool := l.mapIdx fun i x => if v.b ≤ i ∧ i < v.b + v.s then as_ else x

def marksT (l : List Tw) (p : List Bool) : List Bool := l.foldl (fun p t => if t.st = 0 then markL t.v true p else p) p
def marksN (st : Nat) (as_ : Bool) (l : List Nw) (p : List Bool) : List Bool := l.foldl (fun p t => if t.st = st then markL t.v as_ p else p) p

def pubP (P : Pol) (n : Nat) : Pr (Dir × Ns) := (openP P n).bind fun d => (namingP P d.tabs).bind fun ns => .ret (d, ns)
def pubL (n : Nat) (d : Dir) (ns : Ns) : List Bool :=
  marksN 0 true ns.list (markL ns.ahead true (marksN 4 false ns.list (marksT d.tabs (markL d.recs true (markL ((Wn.mk 0 n).cut 0 12) true (List.replicate n false))))))

/-- Public: for each byte, is it public; the error -/
def pubOf (P : Pol) (D : List UInt8) : List Bool × Int :=
  if P.ok = false then ([], 2)
  else if 2000 < D.length then ([], 3)
  else
    let r := ((pubP P D.length).run D ⟨9223372036854775807, false, 0, 0⟩).1
    (pubL D.length r.1 r.2, 0)

end Go.Proofs.YteibjmlimcpaoaaGreatDoor

set_option linter.unusedVariables false
set_option linter.unusedSimpArgs false
namespace Go.Proofs.YteibjmlimcpaoaaGreatDoor

/-- at least so many bytes are read, at most so many steps taken, and all reads are at such places -/
structure Acc {α : Type} (D : List UInt8) (p : Pr α) (lo hi : Nat) (S : Nat → Prop) : Prop where
  lo : lo ≤ rd (p.ideal D).2
  hi : (p.ideal D).2.length ≤ hi
  s : ∀ i, some i ∈ (p.ideal D).2 → S i

theorem rd_append (a b : List (Option Nat)) : rd (a ++ b) = rd a + rd b := by simp [rd]
theorem rd_le (a : List (Option Nat)) : rd a ≤ a.length := List.length_filter_le _ _
theorem Acc.bind {α β : Type} {D : List UInt8} {p : Pr α} {f : α → Pr β} {lo hi lo' hi' : Nat} {S : Nat → Prop} (h : Acc D p lo hi S) (k : Acc D (f (p.ideal D).1) lo' hi' S) : Acc D (p.bind f) (lo + lo') (hi + hi') S := by
  refine ⟨?_, ?_, ?_⟩
  · rw [Pr.ideal_bind]
    simp only [rd_append]
    have := h.lo
    have := k.lo
    omega
  · rw [Pr.ideal_bind]
    simp only [List.length_append]
    have := h.hi
    have := k.hi
    omega
  · rw [Pr.ideal_bind]
    intro i hm
    rcases List.mem_append.1 hm with hm | hm
    · exact h.s i hm
    · exact k.s i hm
theorem Acc.next {α β : Type} {D : List UInt8} {p : Pr α} {f : α → Pr β} {lo hi L H : Nat} {S : Nat → Prop} (lo' hi' : Nat) (h : Acc D p lo hi S) (k : Acc D (f (p.ideal D).1) lo' hi' S) (h1 : L ≤ lo + lo') (h2 : hi + hi' ≤ H) : Acc D (p.bind f) L H S := by
  have q := h.bind k
  exact ⟨Nat.le_trans h1 q.lo, Nat.le_trans q.hi h2, q.s⟩
theorem Acc.ret {α : Type} (D : List UInt8) (a : α) (S : Nat → Prop) : Acc D (.ret a) 0 0 S := ⟨Nat.le_refl _, Nat.le_refl _, fun i h => by simp [Pr.ideal] at h⟩
theorem Acc.mono {α : Type} {D : List UInt8} {p : Pr α} {lo hi lo' hi' : Nat} {S : Nat → Prop} (h : Acc D p lo hi S) (h1 : lo' ≤ lo) (h2 : hi ≤ hi') : Acc D p lo' hi' S := ⟨Nat.le_trans h1 h.lo, Nat.le_trans h.hi h2, h.s⟩
theorem Acc.sub {α : Type} {D : List UInt8} {p : Pr α} {lo hi : Nat} {S T : Nat → Prop} (h : Acc D p lo hi S) (k : ∀ i, S i → T i) : Acc D p lo hi T := ⟨h.lo, h.hi, fun i m => k i (h.s i m)⟩
theorem Acc.tick {α : Type} {D : List UInt8} {p : Pr α} {lo hi : Nat} {S : Nat → Prop} (h : Acc D p lo hi S) : Acc D (.tick p) lo (hi + 1) S := by
  refine ⟨?_, ?_, ?_⟩
  · simpa [Pr.ideal, rd] using h.lo
  · simpa [Pr.ideal] using h.hi
  · intro i m
    simp only [Pr.ideal, List.mem_cons] at m
    rcases m with m | m
    · cases m
    · exact h.s i m

/-- a byte of a window -/
def Wn.has (t : Wn) (i : Nat) : Prop := t.b ≤ i ∧ i < t.b + t.s

theorem acc_byte (D : List UInt8) (t : Wn) (i : Nat) : Acc D (t.byte i) 0 1 t.has := by
  unfold Wn.byte
  split
  · refine ⟨Nat.zero_le _, by simp [Pr.ideal], ?_⟩
    intro j m
    simp [Pr.ideal] at m
    subst m
    exact ⟨by omega, by omega⟩
  · exact (Acc.ret D _ _).mono (Nat.le_refl _) (by omega)
theorem acc_byte1 (D : List UInt8) (t : Wn) (i : Nat) (h : i < t.s) : Acc D (t.byte i) 1 1 t.has := by
  unfold Wn.byte
  rw [if_pos h]
  refine ⟨by simp [Pr.ideal, rd], by simp [Pr.ideal], ?_⟩
  intro j m
  simp [Pr.ideal] at m
  subst m
  exact ⟨by omega, by omega⟩
theorem acc_two (D : List UInt8) (t : Wn) (i : Nat) : Acc D (t.two i) 0 2 t.has := by
  unfold Wn.two
  exact Acc.mono (Acc.bind (acc_byte D t i) (Acc.bind (acc_byte D t (i + 1)) (Acc.ret D _ _))) (by omega) (by omega)
theorem acc_two1 (D : List UInt8) (t : Wn) (i : Nat) (h : i + 1 < t.s) : Acc D (t.two i) 2 2 t.has := by
  unfold Wn.two
  exact Acc.mono (Acc.bind (acc_byte1 D t i (by omega)) (Acc.bind (acc_byte1 D t (i + 1) h) (Acc.ret D _ _))) (by omega) (by omega)
theorem acc_four (D : List UInt8) (t : Wn) (i : Nat) : Acc D (t.four i) 0 4 t.has := by
  unfold Wn.four
  exact Acc.mono (Acc.bind (acc_two D t i) (Acc.bind (acc_two D t (i + 2)) (Acc.ret D _ _))) (by omega) (by omega)
theorem acc_four1 (D : List UInt8) (t : Wn) (i : Nat) (h : i + 3 < t.s) : Acc D (t.four i) 4 4 t.has := by
  unfold Wn.four
  exact Acc.mono (Acc.bind (acc_two1 D t i (by omega)) (Acc.bind (acc_two1 D t (i + 2) (by omega)) (Acc.ret D _ _))) (by omega) (by omega)
theorem acc_bytesAt (D : List UInt8) (S : Nat → Prop) : ∀ (n i : Nat), (∀ j, i ≤ j → j < i + n → S j) → Acc D (bytesAt i n) n n S
  | 0, i, h => Acc.ret D _ _
  | n + 1, i, h => by
    have k := (acc_bytesAt D S n (i + 1) (fun j h1 h2 => h j (by omega) (by omega))).bind (f := fun l => Pr.ret (D.getD i 0 :: l)) (Acc.ret D _ _)
    rw [bytesAt]
    refine ⟨?_, ?_, ?_⟩
    · have := k.lo
      simp only [Pr.ideal, rd, List.filter_cons, Option.isSome, if_true, List.length_cons, Bool.false_eq_true, if_false] at this ⊢
      omega
    · have := k.hi
      simp only [Pr.ideal, Bool.false_eq_true, if_false, List.length_cons] at this ⊢
      omega
    · intro j m
      simp only [Pr.ideal, Bool.false_eq_true, if_false, List.mem_cons] at m
      rcases m with m | m
      · cases m
        exact h _ (by omega) (by omega)
      · exact k.s j m
theorem acc_bytes (D : List UInt8) (t : Wn) : Acc D t.bytes t.s t.s t.has := acc_bytesAt D _ _ _ fun j h1 h2 => ⟨h1, h2⟩

/-- what is read, without a budget -/
theorem ideal_byte (D : List UInt8) (t : Wn) (i : Nat) (h : i < t.s) : ((t.byte i).ideal D).1 = (D.getD (t.b + i) 0).toNat := by
  unfold Wn.byte
  rw [if_pos h]
  rfl
theorem ideal_byte_lt (D : List UInt8) (t : Wn) (i : Nat) : ((t.byte i).ideal D).1 < 256 := by
  unfold Wn.byte
  split
  · exact UInt8.toNat_lt _
  · simp [Pr.ideal]
theorem ideal_two (D : List UInt8) (t : Wn) (i : Nat) : ((t.two i).ideal D).1 = 256 * ((t.byte i).ideal D).1 + ((t.byte (i + 1)).ideal D).1 := by
  unfold Wn.two
  rw [Pr.ideal_bind, Pr.ideal_bind]
  rfl
theorem ideal_four (D : List UInt8) (t : Wn) (i : Nat) : ((t.four i).ideal D).1 = 65536 * ((t.two i).ideal D).1 + ((t.two (i + 2)).ideal D).1 := by
  unfold Wn.four
  rw [Pr.ideal_bind, Pr.ideal_bind]
  rfl
theorem ideal_two_lt (D : List UInt8) (t : Wn) (i : Nat) : ((t.two i).ideal D).1 < 65536 := by
  rw [ideal_two]
  have := ideal_byte_lt D t i
  have := ideal_byte_lt D t (i + 1)
  omega
theorem ideal_bytesAt (D : List UInt8) : ∀ (n i : Nat), i + n ≤ D.length → ((bytesAt i n).ideal D).1 = (D.drop i).take n
  | 0, i, h => by simp [bytesAt, Pr.ideal]
  | n + 1, i, h => by
    rw [bytesAt]
    simp only [Pr.ideal, Bool.false_eq_true, if_false]
    rw [Pr.ideal_bind]
    simp only [Pr.ideal]
    rw [ideal_bytesAt D n (i + 1) (by omega), List.drop_eq_getElem_cons (by omega : i < D.length), List.take_succ_cons]
    simp [List.getD_eq_getElem?_getD, (by omega : i < D.length)]
theorem ideal_bytes (D : List UInt8) (t : Wn) (h : t.b + t.s ≤ D.length) : (t.bytes.ideal D).1 = (D.drop t.b).take t.s := ideal_bytesAt D _ _ h

/-- windows that lie in windows -/
def Wn.inn (t o : Wn) : Prop := o.b ≤ t.b ∧ t.b + t.s ≤ o.b + o.s
theorem Wn.inn_has {t o : Wn} (h : t.inn o) {i : Nat} (k : t.has i) : o.has i := ⟨Nat.le_trans h.1 k.1, Nat.lt_of_lt_of_le k.2 h.2⟩
theorem cut_inn (t : Wn) (b s : Nat) : (t.cut b s).inn t := by
  unfold Wn.cut Wn.inn
  simp only
  omega
theorem cut_has {t : Wn} {b s i : Nat} (k : (t.cut b s).has i) : t.has i := Wn.inn_has (cut_inn t b s) k

end Go.Proofs.YteibjmlimcpaoaaGreatDoor

set_option linter.unusedVariables false
set_option linter.unusedSimpArgs false
namespace Go.Proofs.YteibjmlimcpaoaaGreatDoor

def keeps (t : Tw) : Bool := decide (t.st = 0 ∨ t.st = 4)
theorem shared_ideal (D : List UInt8) (v : Wn) : ∀ l : List Tw, ((sharedP v l).ideal D).1 = l.any (fun t => keeps t && v.shares t.v)
  | [] => rfl
  | t :: l => by
    rw [sharedP]
    simp only [Pr.ideal, List.any_cons, keeps]
    by_cases h : (t.st = 0 ∨ t.st = 4) ∧ v.shares t.v = true
    · rw [if_pos h]
      simp [Pr.ideal, h.1, h.2]
    · rw [if_neg h, shared_ideal D v l]
      have : (decide (t.st = 0 ∨ t.st = 4) && v.shares t.v) = false := by
        by_cases h1 : t.st = 0 ∨ t.st = 4
        · simp only [h1, true_and] at h
          simp [h]
        · simp [h1]
      rw [this]
      rfl
theorem acc_shared (D : List UInt8) (S : Nat → Prop) (v : Wn) : ∀ l : List Tw, Acc D (sharedP v l) 0 l.length S
  | [] => Acc.ret D _ _
  | t :: l => by
    rw [sharedP]
    refine Acc.tick ?_
    split
    · exact (Acc.ret D _ _).mono (Nat.le_refl _) (by omega)
    · exact acc_shared D S v l

/-- what always holds of tables -/
structure TOk (P : Pol) (n e : Nat) (t : Tw) : Prop where
  lies : (t.v.b = 0 ∧ t.v.s = 0) ∨ (e ≤ t.v.b ∧ t.v.b + t.v.s ≤ n)
  size : t.size = t.v.s
  st : t.st ≤ 4
  tag : t.tag.length = 4
  held : t.st = 4 → P.tags.contains t.tag = true
  free : t.st = 0 → P.tags.contains t.tag = false
  here : t.st = 0 ∨ t.st = 4 → e ≤ t.v.b ∧ t.v.b + t.v.s ≤ n
structure TsOk (P : Pol) (n e : Nat) (l : List Tw) : Prop where
  all : ∀ t ∈ l, TOk P n e t
  apart : l.Pairwise fun a b => keeps a = true → keeps b = true → b.v.shares a.v = false

/-- is a tag not above the one ahead of it? -/
def unsB (l : List Tw) (tag : List UInt8) : Bool := match lastTag l with | some x => leL tag x | none => false
theorem status_eq (P : Pol) (l : List Tw) (tag : List UInt8) (v : Wn) (inside : Bool) : statusP P l tag v inside = if unsB l tag = true then .ret 1 else if inside = false then .ret 2 else (sharedP v l).bind fun sh => .ret (if sh then 3 else if P.tags.contains tag then 4 else 0) := rfl
theorem status_ideal (D : List UInt8) (P : Pol) (l : List Tw) (tag : List UInt8) (v : Wn) (inside : Bool) :
    ((statusP P l tag v inside).ideal D).1 = (if unsB l tag = true then 1 else if inside = false then 2 else if l.any (fun t => keeps t && v.shares t.v) = true then 3 else if P.tags.contains tag = true then 4 else 0) := by
  rw [status_eq]
  split
  · rfl
  · split
    · rfl
    · rw [Pr.ideal_bind, shared_ideal]
      rfl
theorem acc_status (D : List UInt8) (S : Nat → Prop) (P : Pol) (l : List Tw) (tag : List UInt8) (v : Wn) (inside : Bool) : Acc D (statusP P l tag v inside) 0 l.length S := by
  rw [status_eq]
  split
  · exact (Acc.ret D _ _).mono (Nat.le_refl _) (by omega)
  · split
    · exact (Acc.ret D _ _).mono (Nat.le_refl _) (by omega)
    · exact Acc.next 0 0 (acc_shared D S v l) (Acc.ret D _ _) (by omega) (by omega)

/-- what a record tells -/
def recT (D : List UInt8) (n e : Nat) (r : Wn) : List UInt8 × Bool × Wn :=
  let begin := ((r.four 8).ideal D).1
  let size := ((r.four 12).ideal D).1
  let inside := decide (e ≤ begin) && holdsB n begin size
  (((r.cut 0 4).bytes.ideal D).1, inside, if inside then ⟨begin, size⟩ else ⟨0, 0⟩)
def newT (D : List UInt8) (P : Pol) (n e : Nat) (l : List Tw) (r : Wn) : Tw :=
  ⟨(recT D n e r).1, ((statusP P l (recT D n e r).1 (recT D n e r).2.2 (recT D n e r).2.1).ideal D).1, (recT D n e r).2.2.s, (recT D n e r).2.2⟩
theorem add_ideal (D : List UInt8) (P : Pol) (n e : Nat) (l : List Tw) (r : Wn) : ((addP P n e l r).ideal D).1 = l ++ [newT D P n e l r] := by
  unfold addP newT recT
  rw [Pr.ideal_bind, Pr.ideal_bind, Pr.ideal_bind]
  simp only
  rw [Pr.ideal_bind]
  rfl
theorem acc_add (D : List UInt8) (P : Pol) (n e : Nat) (l : List Tw) (r : Wn) (hr : r.s = 16) : Acc D (addP P n e l r) 12 (12 + l.length) r.has := by
  unfold addP
  have hc : (r.cut 0 4).s = 4 := by unfold Wn.cut; simp only; omega
  have h1 := (acc_bytes D (r.cut 0 4)).sub (fun i => cut_has (t := r))
  rw [hc] at h1
  exact Acc.mono (Acc.bind h1 (Acc.bind (acc_four1 D r 8 (by omega)) (Acc.bind (acc_four1 D r 12 (by omega)) (Acc.bind (acc_status D _ P l _ _ _) (Acc.ret D _ _))))) (by omega) (by omega)

theorem any_false {α : Type} {l : List α} {p : α → Bool} (h : ¬ l.any p = true) : ∀ x ∈ l, p x = false := by
  intro x hx
  cases hp : p x with
  | false => rfl
  | true => exact absurd (List.any_eq_true.2 ⟨x, hx, hp⟩) h

theorem newT_ok (D : List UInt8) (P : Pol) (n e : Nat) (l : List Tw) (r : Wn) (hr : r.s = 16) (hD : r.b + 16 ≤ D.length) : TOk P n e (newT D P n e l r) := by
  have hst := status_ideal D P l (recT D n e r).1 (recT D n e r).2.2 (recT D n e r).2.1
  have hv : ((recT D n e r).2.1 = false → (recT D n e r).2.2 = ⟨0, 0⟩) ∧ ((recT D n e r).2.1 = true → e ≤ (recT D n e r).2.2.b ∧ (recT D n e r).2.2.b + (recT D n e r).2.2.s ≤ n) := by
    unfold recT
    simp only
    generalize ((r.four 8).ideal D).1 = b
    generalize ((r.four 12).ideal D).1 = s
    refine ⟨fun h => by rw [h]; rfl, fun h => ?_⟩
    rw [h]
    simp only [Bool.and_eq_true, decide_eq_true_eq, holdsB] at h
    simp only [if_true]
    omega
  have htag : (recT D n e r).1.length = 4 := by
    unfold recT
    simp only
    have hc : (r.cut 0 4).s = 4 := by unfold Wn.cut; simp only; omega
    have hb : (r.cut 0 4).b = r.b := by unfold Wn.cut; simp
    rw [ideal_bytes D _ (by omega), hc]
    simp
    omega
  unfold newT
  generalize (recT D n e r).1 = tag at *
  generalize (recT D n e r).2.1 = ins at *
  generalize (recT D n e r).2.2 = v at *
  generalize ((statusP P l tag v ins).ideal D).1 = st at *
  refine ⟨?_, rfl, ?_, htag, ?_, ?_, ?_⟩ <;> simp only
  · cases ins with
    | false => left; rw [hv.1 rfl]; exact ⟨rfl, rfl⟩
    | true => right; exact hv.2 rfl
  · rw [hst]
    repeat' split
    all_goals omega
  · intro h
    rw [hst] at h
    split at h
    · omega
    · split at h
      · omega
      · split at h
        · omega
        · split at h
          · assumption
          · omega
  · intro h
    rw [hst] at h
    split at h
    · omega
    · split at h
      · omega
      · split at h
        · omega
        · split at h
          · omega
          · rename_i h'
            simpa using h'
  · intro h
    cases ins with
    | true => exact hv.2 rfl
    | false =>
      rw [hst] at h
      simp only [if_true] at h
      split at h <;> omega
theorem newT_apart (D : List UInt8) (P : Pol) (n e : Nat) (l : List Tw) (r : Wn) (h : keeps (newT D P n e l r) = true) : ∀ a ∈ l, keeps a = true → (newT D P n e l r).v.shares a.v = false := by
  have hst := status_ideal D P l (recT D n e r).1 (recT D n e r).2.2 (recT D n e r).2.1
  unfold newT keeps at h
  simp only [decide_eq_true_eq] at h
  rw [hst] at h
  intro a ha ka
  split at h
  · omega
  · split at h
    · omega
    · split at h
      · omega
      · rename_i hn
        have := any_false hn a ha
        rw [ka, Bool.true_and] at this
        exact this
theorem TsOk.add {D : List UInt8} {P : Pol} {n e : Nat} {l : List Tw} (h : TsOk P n e l) (r : Wn) (hr : r.s = 16) (hD : r.b + 16 ≤ D.length) : TsOk P n e (l ++ [newT D P n e l r]) := by
  refine ⟨?_, ?_⟩
  · intro t ht
    rcases List.mem_append.1 ht with ht | ht
    · exact h.all t ht
    · rw [List.mem_singleton.1 ht]
      exact newT_ok D P n e l r hr hD
  · refine List.pairwise_append.2 ⟨h.apart, by simp, ?_⟩
    intro a ha b hb ka kb
    rw [List.mem_singleton.1 hb] at kb ⊢
    exact newT_apart D P n e l r kb a ha ka
theorem adds_ideal (D : List UInt8) (P : Pol) (n : Nat) (recs : Wn) (S : Nat → Prop) (hS : ∀ i, recs.has i → S i) (hD : recs.b + recs.s ≤ D.length) : ∀ (k i : Nat) (l : List Tw), TsOk P n (recs.b + recs.s) l → l.length = i → recs.s = 16 * (i + k) → i + k ≤ 16 →
    TsOk P n (recs.b + recs.s) ((addsP P n recs k i l).ideal D).1 ∧ ((addsP P n recs k i l).ideal D).1.length = i + k ∧ Acc D (addsP P n recs k i l) (12 * k) (28 * k) S
  | 0, i, l, h, hl, hs, h16 => ⟨h, hl, Acc.ret D _ _⟩
  | k + 1, i, l, h, hl, hs, h16 => by
    have hb : (recs.cut (16 * i) 16).b = recs.b + 16 * i := by unfold Wn.cut; simp only; omega
    have hcs : (recs.cut (16 * i) 16).s = 16 := by unfold Wn.cut; simp only; omega
    have hok := h.add (D := D) (recs.cut (16 * i) 16) hcs (by omega)
    obtain ⟨r1, r2, r3⟩ := adds_ideal D P n recs S hS hD k (i + 1) _ hok (by simp [hl]) (by omega) (by omega)
    have ha := (acc_add D P n (recs.b + recs.s) l (recs.cut (16 * i) 16) hcs).sub (fun j hj => hS j (cut_has hj))
    rw [addsP, Pr.ideal_bind, add_ideal]
    refine ⟨r1, by rw [r2]; omega, ?_⟩
    refine Acc.next (12 * k) (28 * k) ha ?_ (by omega) (by omega)
    rw [add_ideal]
    exact r3

/-- what always holds of a file's tables -/
structure DOk (P : Pol) (D : List UInt8) (d : Dir) : Prop where
  kind : d.kind ≤ 3
  no : d.here = false → d.tabs = [] ∧ d.recs = ⟨0, 0⟩
  yes : d.here = true → (d.kind = 1 ∨ d.kind = 2) ∧ d.recs = ⟨12, 16 * d.tabs.length⟩ ∧ d.tabs.length ≤ 16 ∧ 12 + 16 * d.tabs.length ≤ D.length
  tabs : TsOk P D.length (12 + 16 * d.tabs.length) d.tabs
theorem kindOf_le (o : List UInt8) : kindOf o ≤ 3 := by
  unfold kindOf
  repeat' split
  all_goals omega
theorem TsOk.nil (P : Pol) (n e : Nat) : TsOk P n e [] := ⟨by simp, by simp⟩
theorem open_ok (P : Pol) (D : List UInt8) : DOk P D ((openP P D.length).ideal D).1 ∧ Acc D (openP P D.length) ((if ((openP P D.length).ideal D).1.kind = 1 ∨ ((openP P D.length).ideal D).1.kind = 2 then 6 else 0) + 12 * ((openP P D.length).ideal D).1.tabs.length) 454 (fun i => (i < 12 ∧ i < D.length) ∨ ((openP P D.length).ideal D).1.recs.has i) := by
  unfold openP
  by_cases h12 : D.length < 12
  · rw [if_pos h12]
    refine ⟨⟨by simp [Pr.ideal], fun _ => ⟨rfl, rfl⟩, fun h => by simp [Pr.ideal] at h, TsOk.nil _ _ _⟩, ?_⟩
    exact (Acc.ret D _ _).mono (by simp [Pr.ideal]) (by omega)
  · rw [if_neg h12]
    have hb4 : Acc D (Wn.bytes ⟨0, 4⟩) 4 4 (fun i => i < 12 ∧ i < D.length) := (acc_bytes D ⟨0, 4⟩).sub fun i hi => by have := hi.2; simp only at this; omega
    rw [Pr.ideal_bind]
    generalize hO : ((Wn.bytes ⟨0, 4⟩).ideal D).1 = o
    simp only
    by_cases hk : kindOf o = 1 ∨ kindOf o = 2
    · rw [if_pos hk, Pr.ideal_bind]
      have h2 : Acc D (Wn.two ⟨0, 12⟩ 4) 2 2 (fun i => i < 12 ∧ i < D.length) := (acc_two1 D ⟨0, 12⟩ 4 (by simp)).sub fun i hi => by have := hi.2; simp only at this; omega
      generalize hC : ((Wn.two ⟨0, 12⟩ 4).ideal D).1 = c
      simp only
      by_cases hc : 16 < c ∨ holdsB D.length 12 (16 * c) = false
      · rw [if_pos hc]
        refine ⟨⟨by simp [Pr.ideal], fun _ => ⟨rfl, rfl⟩, fun h => by simp [Pr.ideal] at h, TsOk.nil _ _ _⟩, ?_⟩
        refine Acc.next 0 450 (hb4.sub fun i h => .inl h) ?_ (by simp [Pr.ideal]) (by omega)
        rw [hO, if_pos hk]
        refine Acc.next 0 448 (h2.sub fun i h => .inl h) ?_ (by omega) (by omega)
        rw [hC, if_pos hc]
        exact (Acc.ret D _ _).mono (by omega) (by omega)
      · rw [if_neg hc, Pr.ideal_bind]
        have hc16 : c ≤ 16 := by omega
        have hcl : 12 + 16 * c ≤ D.length := by
          have : holdsB D.length 12 (16 * c) = true := by
            cases h : holdsB D.length 12 (16 * c) with
            | true => rfl
            | false => exact absurd (.inr h) hc
          simp only [holdsB, decide_eq_true_eq] at this
          omega
        obtain ⟨r1, r2, r3⟩ := adds_ideal D P D.length ⟨12, 16 * c⟩ (fun i => (i < 12 ∧ i < D.length) ∨ (Wn.mk 12 (16 * c)).has i) (fun i h => .inr h) (by simp only; omega) c 0 [] (TsOk.nil _ _ _) rfl (by simp only; omega) (by omega)
        have hA : Acc D ((Wn.bytes ⟨0, 4⟩).bind fun o =>
    if kindOf o = 1 ∨ kindOf o = 2 then
      (Wn.two ⟨0, 12⟩ 4).bind fun c =>
        if 16 < c ∨ holdsB D.length 12 (16 * c) = false then .ret ⟨0, false, ⟨0, 0⟩, []⟩
        else (addsP P D.length ⟨12, 16 * c⟩ c 0 []).bind fun l => .ret ⟨kindOf o, true, ⟨12, 16 * c⟩, l⟩
    else .ret (Dir.mk (kindOf o) false ⟨0, 0⟩ [])) (6 + 12 * c) 454 (fun i => (i < 12 ∧ i < D.length) ∨ (Wn.mk 12 (16 * c)).has i) := by
          refine Acc.next (2 + 12 * c) 450 (hb4.sub fun i h => .inl h) ?_ (by omega) (by omega)
          rw [hO, if_pos hk]
          refine Acc.next (12 * c) 448 (h2.sub fun i h => .inl h) ?_ (by omega) (by omega)
          rw [hC, if_neg hc]
          exact Acc.next 0 0 r3 (Acc.ret D _ _) (by omega) (by omega)
        generalize ((addsP P D.length ⟨12, 16 * c⟩ c 0 []).ideal D).1 = l at *
        simp only at r1
        simp only [Pr.ideal]
        refine ⟨⟨?_, fun h => by simp at h, fun _ => ?_, ?_⟩, ?_⟩ <;> try simp only
        · exact kindOf_le o
        · refine ⟨hk, ?_, by omega, by omega⟩
          rw [r2, Nat.zero_add]
        · rw [r2, Nat.zero_add]
          exact r1
        · refine hA.mono ?_ (Nat.le_refl _)
          show (if kindOf o = 1 ∨ kindOf o = 2 then 6 else 0) + 12 * l.length ≤ 6 + 12 * c
          rw [if_pos hk]
          omega
    · rw [if_neg hk]
      refine ⟨⟨?_, fun _ => ⟨rfl, rfl⟩, fun h => by simp [Pr.ideal] at h, TsOk.nil _ _ _⟩, ?_⟩
      · exact kindOf_le o
      · refine Acc.next 0 450 (hb4.sub fun i h => .inl h) ?_ ?_ (by omega)
        · rw [hO, if_neg hk]
          exact (Acc.ret D _ _).mono (by omega) (by omega)
        · show (if kindOf o = 1 ∨ kindOf o = 2 then 6 else 0) + 12 * 0 ≤ 4 + 0
          rw [if_neg hk]
          omega

end Go.Proofs.YteibjmlimcpaoaaGreatDoor

set_option linter.unusedVariables false
set_option linter.unusedSimpArgs false
namespace Go.Proofs.YteibjmlimcpaoaaGreatDoor

theorem count_ideal (D : List UInt8) (t : Wn) (first size : Nat) :
    ((countP t first size).ideal D).1.2 = 0 ∧ ((countP t first size).ideal D).1.1 = ((t.two 2).ideal D).1 ∧ ((countP t first size).ideal D).1.1 ≤ 20 ∧ first + size * ((countP t first size).ideal D).1.1 ≤ t.s ∨ ((countP t first size).ideal D).1.2 ∈ [5, 6, 7] := by
  unfold countP
  split
  · right; simp [Pr.ideal]
  · rw [Pr.ideal_bind]
    simp only
    split
    · right; simp [Pr.ideal]
    · rw [Pr.ideal_bind]
      simp only
      split
      · right; simp [Pr.ideal]
      · split
        · left
          rename_i h
          simp only [Pr.ideal, true_and]
          simp only [holdsB, decide_eq_true_eq] at h
          omega
        · right; simp [Pr.ideal]
theorem acc_count (D : List UInt8) (t : Wn) (first size : Nat) : Acc D (countP t first size) 0 4 t.has := by
  unfold countP
  split
  · exact (Acc.ret D _ _).mono (Nat.le_refl _) (by omega)
  · refine Acc.next 0 2 (acc_two D t 0) ?_ (by omega) (by omega)
    split
    · exact (Acc.ret D _ _).mono (Nat.le_refl _) (by omega)
    · refine Acc.next 0 0 (acc_two D t 2) ?_ (by omega) (by omega)
      split
      · exact (Acc.ret D _ _)
      · split
        · exact (Acc.ret D _ _)
        · exact (Acc.ret D _ _)
/-- it reads the first four bytes alone -/
theorem acc_count4 (D : List UInt8) (t : Wn) (first size : Nat) : Acc D (countP t first size) 0 4 (fun i => t.has i ∧ i < t.b + 4) := by
  have hb : ∀ i, i < 4 → Acc D (t.byte i) 0 1 (fun j => t.has j ∧ j < t.b + 4) := by
    intro i hi
    have h := acc_byte D t i
    refine ⟨h.lo, h.hi, fun j m => ⟨h.s j m, ?_⟩⟩
    unfold Wn.byte at m
    split at m
    · simp [Pr.ideal] at m
      omega
    · simp [Pr.ideal] at m
  have h2 : ∀ i, i < 3 → Acc D (t.two i) 0 2 (fun j => t.has j ∧ j < t.b + 4) := by
    intro i hi
    unfold Wn.two
    exact Acc.next 0 1 (hb i (by omega)) (Acc.next 0 0 (hb (i + 1) (by omega)) (Acc.ret D _ _) (by omega) (by omega)) (by omega) (by omega)
  unfold countP
  split
  · exact (Acc.ret D _ _).mono (Nat.le_refl _) (by omega)
  · refine Acc.next 0 2 (h2 0 (by omega)) ?_ (by omega) (by omega)
    split
    · exact (Acc.ret D _ _).mono (Nat.le_refl _) (by omega)
    · refine Acc.next 0 0 (h2 2 (by omega)) ?_ (by omega) (by omega)
      split
      · exact (Acc.ret D _ _)
      · split
        · exact (Acc.ret D _ _)
        · exact (Acc.ret D _ _)

/-- what always holds of a name -/
structure NOk (P : Pol) (t : Wn) (x : Nw) : Prop where
  pl : x.pl < 65536
  en : x.en < 65536
  la : x.la < 65536
  id : x.id < 65536
  st : x.st = 0 ∨ x.st = 2 ∨ x.st = 4
  held : x.st = 4 ↔ P.ids.contains (x.id : Int) = true
  inn : x.v.inn t

def newN (D : List UInt8) (P : Pol) (t : Wn) (texts : Nat) (r : Wn) : Nw :=
  ⟨((r.two 0).ideal D).1, ((r.two 2).ideal D).1, ((r.two 4).ideal D).1, ((r.two 6).ideal D).1,
    if P.ids.contains (((r.two 6).ideal D).1 : Int) then 4 else if holdsB t.s (texts + ((r.two 10).ideal D).1) ((r.two 8).ideal D).1 = true then 0 else 2,
    t.cut (texts + ((r.two 10).ideal D).1) ((r.two 8).ideal D).1⟩
theorem name_ideal (D : List UInt8) (P : Pol) (t : Wn) (texts : Nat) (r : Wn) : ((nameP P t texts r).ideal D).1 = newN D P t texts r := by
  unfold nameP newN
  rw [Pr.ideal_bind, Pr.ideal_bind, Pr.ideal_bind, Pr.ideal_bind, Pr.ideal_bind, Pr.ideal_bind]
  rfl
theorem acc_name (D : List UInt8) (P : Pol) (t : Wn) (texts : Nat) (r : Wn) (hr : r.s = 12) : Acc D (nameP P t texts r) 12 12 r.has := by
  unfold nameP
  exact Acc.next 10 10 (acc_two1 D r 0 (by omega)) (Acc.next 8 8 (acc_two1 D r 2 (by omega)) (Acc.next 6 6 (acc_two1 D r 4 (by omega)) (Acc.next 4 4 (acc_two1 D r 6 (by omega)) (Acc.next 2 2 (acc_two1 D r 8 (by omega)) (Acc.next 0 0 (acc_two1 D r 10 (by omega)) (Acc.ret D _ _) (by omega) (by omega)) (by omega) (by omega)) (by omega) (by omega)) (by omega) (by omega)) (by omega) (by omega)) (by omega) (by omega)
theorem newN_ok (D : List UInt8) (P : Pol) (t : Wn) (texts : Nat) (r : Wn) : NOk P t (newN D P t texts r) := by
  refine ⟨ideal_two_lt _ _ _, ideal_two_lt _ _ _, ideal_two_lt _ _ _, ideal_two_lt _ _ _, ?_, ?_, cut_inn _ _ _⟩
  · unfold newN
    simp only
    repeat' split
    all_goals simp
  · unfold newN
    simp only
    generalize P.ids.contains (((r.two 6).ideal D).1 : Int) = c
    cases c with
    | true => simp
    | false =>
      simp only [Bool.false_eq_true, if_false, iff_false]
      split <;> omega
theorem names_ideal (D : List UInt8) (P : Pol) (t : Wn) (texts : Nat) (S : Nat → Prop) : ∀ (k i : Nat) (l : List Nw), (∀ j, t.b + 6 ≤ j → j < t.b + 6 + 12 * (i + k) → S j) → 6 + 12 * (i + k) ≤ t.s → (∀ x ∈ l, NOk P t x) →
    (∀ x ∈ ((namesP P t texts k i l).ideal D).1, NOk P t x) ∧ ((namesP P t texts k i l).ideal D).1.length = l.length + k ∧ Acc D (namesP P t texts k i l) (12 * k) (12 * k) S
  | 0, i, l, hS, hs, h => ⟨h, rfl, Acc.ret D _ _⟩
  | k + 1, i, l, hS, hs, h => by
    have hb : (t.cut (6 + 12 * i) 12).b = t.b + 6 + 12 * i := by unfold Wn.cut; simp only; omega
    have hcs : (t.cut (6 + 12 * i) 12).s = 12 := by unfold Wn.cut; simp only; omega
    obtain ⟨r1, r2, r3⟩ := names_ideal D P t texts S k (i + 1) (l ++ [newN D P t texts (t.cut (6 + 12 * i) 12)]) (fun j h1 h2 => hS j h1 (by omega)) (by omega) (by
      intro x hx
      rcases List.mem_append.1 hx with hx | hx
      · exact h x hx
      · rw [List.mem_singleton.1 hx]
        exact newN_ok D P t texts _)
    have ha := (acc_name D P t texts (t.cut (6 + 12 * i) 12) hcs).sub (T := S) (fun j hj => hS j (by have := hj.1; omega) (by have := hj.2; omega))
    rw [namesP, Pr.ideal_bind, name_ideal]
    refine ⟨r1, by rw [r2]; simp; omega, ?_⟩
    refine Acc.next (12 * k) (12 * k) ha ?_ (by omega) (by omega)
    rw [name_ideal]
    exact r3

def tagName : List UInt8 := [110, 97, 109, 101]
/-- the table of a tag is one of the tables, or there is none -/
theorem tableOf_mem (tag : List UInt8) : ∀ l : List Tw, (∃ t ∈ l, t.tag = tag ∧ tableOf tag l = (t.v, t.st)) ∨ tableOf tag l = (⟨0, 0⟩, 8)
  | [] => .inr rfl
  | t :: l => by
    rw [tableOf]
    split
    · left; exact ⟨t, by simp, by assumption, rfl⟩
    · rcases tableOf_mem tag l with ⟨x, hx, h1, h2⟩ | h
      · left; exact ⟨x, by simp [hx], h1, h2⟩
      · right; exact h

/-- what always holds of a file's names -/
structure NsOk (P : Pol) (l : List Tw) (ns : Ns) : Prop where
  st : ns.st ≤ 8
  no : ns.here = false → ns.list = [] ∧ ns.ahead = ⟨0, 0⟩ ∧ ns.st ≠ 0
  yes : ns.here = true → ns.st = 0 ∧ (tableOf tagName l).2 = 0 ∧ ns.ahead.b = (tableOf tagName l).1.b ∧ ns.ahead.s = 6 + 12 * ns.list.length ∧ 6 + 12 * ns.list.length ≤ (tableOf tagName l).1.s ∧ ns.list.length ≤ 20 ∧ ∀ x ∈ ns.list, NOk P (tableOf tagName l).1 x

theorem tableOf_st {P : Pol} {n e : Nat} {l : List Tw} (h : TsOk P n e l) (tag : List UInt8) : (tableOf tag l).2 ≤ 8 := by
  rcases tableOf_mem tag l with ⟨t, ht, _, he⟩ | he
  · rw [he]
    have := (h.all t ht).st
    simp only
    omega
  · rw [he]
    simp
theorem naming_ok (P : Pol) (D : List UInt8) (l : List Tw) (n e : Nat) (hl : TsOk P n e l) : NsOk P l ((namingP P l).ideal D).1 ∧ Acc D (namingP P l) (12 * ((namingP P l).ideal D).1.list.length) 246 (fun i => (tableOf tagName l).2 = 0 ∧ (tableOf tagName l).1.has i ∧ (((namingP P l).ideal D).1.here = true → ((namingP P l).ideal D).1.ahead.has i)) := by
  have h8 := tableOf_st hl tagName
  unfold namingP
  rw [show ([110, 97, 109, 101] : List UInt8) = tagName from rfl]
  generalize hta : (tableOf tagName l).1 = t at *
  generalize hst : (tableOf tagName l).2 = st at *
  simp only
  by_cases h0 : st ≠ 0
  · rw [if_pos h0]
    refine ⟨⟨h8, fun _ => ⟨rfl, rfl, h0⟩, fun h => by simp [Pr.ideal] at h⟩, ?_⟩
    exact (Acc.ret D _ _).mono (by simp [Pr.ideal]) (by omega)
  · rw [if_neg h0]
    have h0' : st = 0 := by omega
    rw [Pr.ideal_bind]
    have hc := count_ideal D t 6 12
    have ac := acc_count4 D t 6 12
    generalize hC : ((countP t 6 12).ideal D).1 = c at *
    simp only
    by_cases h1 : c.2 ≠ 0
    · rw [if_pos h1]
      refine ⟨⟨?_, fun _ => ⟨rfl, rfl, h1⟩, fun h => by simp [Pr.ideal] at h⟩, ?_⟩
      · rcases hc with hc | hc
        · exact absurd hc.1 h1
        · show c.2 ≤ 8
          simp at hc
          omega
      · refine Acc.next 0 0 (ac.sub fun i h => ⟨h0', h.1, fun h => by simp [Pr.ideal] at h⟩) ?_ (by simp [Pr.ideal]) (by omega)
        rw [hC, if_pos h1]
        exact Acc.ret D _ _
    · rw [if_neg h1]
      obtain ⟨hc0, hc1, hc2, hc3⟩ : c.2 = 0 ∧ c.1 = ((t.two 2).ideal D).1 ∧ c.1 ≤ 20 ∧ 6 + 12 * c.1 ≤ t.s := by
        rcases hc with hc | hc
        · exact hc
        · exact absurd (by omega : c.2 = 0) (fun h => by rw [h] at hc; simp at hc)
      rw [Pr.ideal_bind]
      generalize hT : ((t.two 4).ideal D).1 = texts
      simp only
      have hab : (t.cut 0 (6 + 12 * c.1)).b = t.b := by unfold Wn.cut; simp
      have has : (t.cut 0 (6 + 12 * c.1)).s = 6 + 12 * c.1 := by unfold Wn.cut; simp only; omega
      obtain ⟨r1, r2, r3⟩ := names_ideal D P t texts (fun i => t.has i ∧ (t.cut 0 (6 + 12 * c.1)).has i) c.1 0 [] (fun j h1 h2 => ⟨⟨by omega, by omega⟩, ⟨by omega, by omega⟩⟩) (by omega) (by simp)
      have a4 : Acc D (t.two 4) 0 2 (fun i => t.has i ∧ (t.cut 0 (6 + 12 * c.1)).has i) := by
        have hb : ∀ i, i < 6 → Acc D (t.byte i) 0 1 (fun i => t.has i ∧ (t.cut 0 (6 + 12 * c.1)).has i) := by
          intro i hi
          have h := acc_byte D t i
          refine ⟨h.lo, h.hi, fun j m => ⟨h.s j m, ?_⟩⟩
          have hj := h.s j m
          unfold Wn.byte at m
          split at m
          · simp [Pr.ideal] at m
            exact ⟨by have := hj.1; omega, by omega⟩
          · simp [Pr.ideal] at m
        unfold Wn.two
        exact Acc.next 0 1 (hb 4 (by omega)) (Acc.next 0 0 (hb (4 + 1) (by omega)) (Acc.ret D _ _) (by omega) (by omega)) (by omega) (by omega)
      rw [Pr.ideal_bind]
      have hA : Acc D ((countP t 6 12).bind fun c => if c.2 ≠ 0 then .ret ⟨c.2, false, ⟨0, 0⟩, []⟩ else (t.two 4).bind fun texts => (namesP P t texts c.1 0 []).bind fun l => .ret (Ns.mk 0 true (t.cut 0 (6 + 12 * c.1)) l)) (12 * c.1) 246 (fun i => t.has i ∧ (t.cut 0 (6 + 12 * c.1)).has i) := by
        refine Acc.next (12 * c.1) 242 (ac.sub fun i h => ⟨h.1, ⟨by have := h.1.1; omega, by have := h.2; omega⟩⟩) ?_ (by omega) (by omega)
        rw [hC, if_neg h1]
        refine Acc.next (12 * c.1) 240 a4 ?_ (by omega) (by omega)
        rw [hT]
        exact Acc.next 0 0 r3 (Acc.ret D _ _) (by omega) (by omega)
      generalize ((namesP P t texts c.1 0 []).ideal D).1 = ll at *
      simp only [List.length_nil, Nat.zero_add] at r2
      refine ⟨⟨?_, fun h => by simp [Pr.ideal] at h, fun _ => ?_⟩, ?_⟩
      · show 0 ≤ 8
        omega
      · rw [hta, hst]
        show 0 = 0 ∧ st = 0 ∧ (t.cut 0 (6 + 12 * c.1)).b = t.b ∧ (t.cut 0 (6 + 12 * c.1)).s = 6 + 12 * ll.length ∧ 6 + 12 * ll.length ≤ t.s ∧ ll.length ≤ 20 ∧ ∀ x ∈ ll, NOk P t x
        rw [r2]
        exact ⟨rfl, h0', hab, has, hc3, hc2, r1⟩
      · refine (hA.sub fun i h => ⟨h0', h.1, fun _ => h.2⟩).mono ?_ (Nat.le_refl _)
        show 12 * ll.length ≤ _
        omega

theorem acc_head (D : List UInt8) (t : Wn) (st : Nat) : Acc D (headP t st) 0 8 (fun i => st = 0 ∧ t.has i) := by
  unfold headP
  split
  · exact (Acc.ret D _ _).mono (Nat.le_refl _) (by omega)
  · have h0 : st = 0 := by omega
    split
    · exact (Acc.ret D _ _).mono (Nat.le_refl _) (by omega)
    · have hc : (t.cut 12 4).s = 4 := by unfold Wn.cut; simp only; omega
      have hb := acc_bytes D (t.cut 12 4)
      rw [hc] at hb
      refine Acc.next 0 4 ((hb.sub fun i h => ⟨h0, cut_has h⟩)) ?_ (by omega) (by omega)
      refine Acc.next 0 2 ((acc_two D t 16).sub fun i h => ⟨h0, h⟩) ?_ (by omega) (by omega)
      refine Acc.next 0 0 ((acc_two D t 18).sub fun i h => ⟨h0, h⟩) ?_ (by omega) (by omega)
      split
      · exact Acc.ret D _ _
      · exact Acc.ret D _ _
theorem acc_rights (D : List UInt8) (t : Wn) (st : Nat) : Acc D (rightsP t st) 0 4 (fun i => st = 0 ∧ t.has i) := by
  unfold rightsP
  split
  · exact (Acc.ret D _ _).mono (Nat.le_refl _) (by omega)
  · have h0 : st = 0 := by omega
    split
    · exact (Acc.ret D _ _).mono (Nat.le_refl _) (by omega)
    · refine Acc.next 0 2 ((acc_two D t 0).sub fun i h => ⟨h0, h⟩) ?_ (by omega) (by omega)
      refine Acc.next 0 0 ((acc_two D t 8).sub fun i h => ⟨h0, h⟩) ?_ (by omega) (by omega)
      repeat' split
      all_goals exact Acc.ret D _ _
theorem acc_parts (D : List UInt8) (t : Wn) : ∀ (k i best begin : Nat), Acc D (partsP t k i best begin) 0 (8 * k) t.has
  | 0, i, best, begin => Acc.ret D _ _
  | k + 1, i, best, begin => by
    rw [partsP]
    refine Acc.next 0 (6 + 8 * k) ((acc_two D _ 0).sub fun i h => cut_has h) ?_ (by omega) (by omega)
    refine Acc.next 0 (4 + 8 * k) ((acc_two D _ 2).sub fun i h => cut_has h) ?_ (by omega) (by omega)
    split
    · exact Acc.next 0 (8 * k) ((acc_four D _ 4).sub fun i h => cut_has h) (acc_parts D t k _ _ _) (by omega) (by omega)
    · exact (acc_parts D t k _ _ _).mono (by omega) (by omega)
theorem part_ideal (D : List UInt8) (t : Wn) : ((partP t).ideal D).1.1.inn t ∧ ((partP t).ideal D).1.2 ∈ [0, 5, 6, 7] ∨ (((partP t).ideal D).1.1.s = 0 ∧ ((partP t).ideal D).1.2 ∈ [5, 6, 7]) := by
  unfold partP
  rw [Pr.ideal_bind]
  have hc := count_ideal D t 4 8
  generalize ((countP t 4 8).ideal D).1 = c at *
  simp only
  split
  · right
    rcases hc with hc | hc
    · omega
    · exact ⟨rfl, hc⟩
  · rw [Pr.ideal_bind]
    generalize ((partsP t c.1 0 3 0).ideal D).1 = r
    simp only
    split
    · right; exact ⟨rfl, by simp [Pr.ideal]⟩
    · split
      · right; exact ⟨rfl, by simp [Pr.ideal]⟩
      · left; exact ⟨cut_inn _ _ _, by simp [Pr.ideal]⟩
theorem acc_part (D : List UInt8) (t : Wn) : Acc D (partP t) 0 164 t.has := by
  unfold partP
  have hc := count_ideal D t 4 8
  refine Acc.next 0 160 (acc_count D t 4 8) ?_ (by omega) (by omega)
  generalize ((countP t 4 8).ideal D).1 = c at *
  split
  · exact (Acc.ret D _ _).mono (Nat.le_refl _) (by omega)
  · have h20 : c.1 ≤ 20 := by
      rcases hc with hc | hc
      · omega
      · rename_i h
        simp at hc
        omega
    refine Acc.next 0 0 (acc_parts D t _ _ _ _) ?_ (by omega) (by omega)
    repeat' split
    all_goals exact Acc.ret D _ _
theorem acc_ranges (D : List UInt8) (bounds : Nat → Pr (Nat × Nat)) (q : Nat) (S : Nat → Prop) (hb : ∀ i, Acc D (bounds i) 0 q S) : ∀ (k i count : Nat) (e : Int), Acc D (rangesP bounds k i count e) 0 (q * k) S
  | 0, i, count, e => (Acc.ret D _ _).mono (Nat.le_refl _) (by omega)
  | k + 1, i, count, e => by
    rw [rangesP]
    refine Acc.next 0 (q * k) (hb i) ?_ (by omega) (by rw [Nat.mul_succ]; omega)
    split
    · exact (Acc.ret D _ _).mono (Nat.le_refl _) (by omega)
    · exact acc_ranges D bounds q S hb k _ _ _
theorem acc_small (D : List UInt8) (v : Wn) (twice i : Nat) : Acc D (smallP v twice i) 0 4 v.has := by
  unfold smallP
  exact Acc.next 0 2 (acc_two D v _) (Acc.next 0 0 (acc_two D v _) (Acc.ret D _ _) (by omega) (by omega)) (by omega) (by omega)
theorem acc_great (D : List UInt8) (v : Wn) (i : Nat) : Acc D (greatP v i) 0 8 v.has := by
  unfold greatP
  exact Acc.next 0 4 (acc_four D v _) (Acc.next 0 0 (acc_four D v _) (Acc.ret D _ _) (by omega) (by omega)) (by omega) (by omega)
theorem acc_countSmall (D : List UInt8) (v : Wn) : Acc D (countSmallP v) 0 (4 + v.s) v.has := by
  unfold countSmallP
  refine Acc.next 0 (2 + v.s) (acc_two D v 2) ?_ (by omega) (by omega)
  refine Acc.next 0 v.s (acc_two D v 6) ?_ (by omega) (by omega)
  generalize ((v.two 2).ideal D).1 = size
  generalize ((v.two 6).ideal D).1 = twice
  split
  · exact (Acc.ret D _ _).mono (Nat.le_refl _) (by omega)
  · split
    · exact (Acc.ret D _ _).mono (Nat.le_refl _) (by omega)
    · split
      · exact (Acc.ret D _ _).mono (Nat.le_refl _) (by omega)
      · refine Acc.next 0 0 (acc_ranges D _ 4 _ (acc_small D v twice) _ _ _ _) ?_ (by omega) (by omega)
        split
        · exact Acc.ret D _ _
        · split
          · exact Acc.ret D _ _
          · exact Acc.ret D _ _
theorem acc_countGreat (D : List UInt8) (v : Wn) : Acc D (countGreatP v) 0 (8 + v.s) v.has := by
  unfold countGreatP
  refine Acc.next 0 (4 + v.s) (acc_four D v 4) ?_ (by omega) (by omega)
  refine Acc.next 0 v.s (acc_four D v 12) ?_ (by omega) (by omega)
  generalize ((v.four 4).ideal D).1 = size
  generalize ((v.four 12).ideal D).1 = ranges
  split
  · exact (Acc.ret D _ _).mono (Nat.le_refl _) (by omega)
  · refine Acc.next 0 0 (acc_ranges D _ 8 _ (acc_great D v) _ _ _ _) ?_ (by omega) (by omega)
    split
    · exact Acc.ret D _ _
    · split
      · exact Acc.ret D _ _
      · exact Acc.ret D _ _
theorem acc_cover (D : List UInt8) (t : Wn) (st : Nat) : Acc D (coverP t st) 0 (174 + t.s) (fun i => st = 0 ∧ t.has i) := by
  unfold coverP
  split
  · exact (Acc.ret D _ _).mono (Nat.le_refl _) (by omega)
  · have h0 : st = 0 := by omega
    have hp := part_ideal D t
    refine Acc.next 0 (10 + t.s) ((acc_part D t).sub fun i h => ⟨h0, h⟩) ?_ (by omega) (by omega)
    generalize ((partP t).ideal D).1 = p at *
    split
    · exact (Acc.ret D _ _).mono (Nat.le_refl _) (by omega)
    · rename_i h2
      have hin : p.1.inn t := by
        rcases hp with hp | hp
        · exact hp.1
        · have := hp.2
          simp at this
          omega
      have hs : p.1.s ≤ t.s := by have := hin.1; have := hin.2; omega
      refine Acc.next 0 (8 + t.s) ((acc_two D p.1 0).sub fun i h => ⟨h0, Wn.inn_has hin h⟩) ?_ (by omega) (by omega)
      refine Acc.next 0 0 (lo := 0) (hi := 8 + t.s) ?_ ?_ (by omega) (by omega)
      · split
        · exact ((acc_countSmall D p.1).sub fun i h => ⟨h0, Wn.inn_has hin h⟩).mono (by omega) (by omega)
        · split
          · exact ((acc_countGreat D p.1).sub fun i h => ⟨h0, Wn.inn_has hin h⟩).mono (by omega) (by omega)
          · exact (Acc.ret D _ _).mono (by omega) (by omega)
      · repeat' split
        all_goals exact Acc.ret D _ _
theorem acc_tolds (D : List UInt8) (limit : Int) (S : Nat → Prop) (n : Nat) : ∀ (l : List Nw) (acc : List Nm), (∀ x ∈ l, x.v.s ≤ n ∧ ∀ i, x.st = 0 → x.v.has i → S i) → Acc D (toldsP limit l acc) 0 (n * l.length) S
  | [], acc, h => (Acc.ret D _ _).mono (Nat.le_refl _) (by omega)
  | x :: l, acc, h => by
    rw [toldsP]
    obtain ⟨h1, h2⟩ := h x (by simp)
    refine Acc.next (lo := 0) (hi := n) 0 (n * l.length) ?_ (acc_tolds D limit S n l _ fun y hy => h y (by simp [hy])) (by omega) (by rw [List.length_cons, Nat.mul_succ]; omega)
    unfold toldP
    split
    · exact (Acc.next 0 0 ((acc_bytes D x.v).sub fun i hi => h2 i (by assumption) hi) (Acc.ret D _ _) (Nat.zero_le _) h1)
    · exact (Acc.ret D _ _).mono (Nat.le_refl _) (by omega)

end Go.Proofs.YteibjmlimcpaoaaGreatDoor

set_option linter.unusedVariables false
set_option linter.unusedSimpArgs false
namespace Go.Proofs.YteibjmlimcpaoaaGreatDoor

def dirOf (P : Pol) (D : List UInt8) : Dir := ((openP P D.length).ideal D).1
def nsOf (P : Pol) (D : List UInt8) : Ns := ((namingP P (dirOf P D).tabs).ideal D).1
def repD (P : Pol) (D : List UInt8) : Rep := ((tellP P D.length).ideal D).1
def trD (P : Pol) (D : List UInt8) : List (Option Nat) := ((tellP P D.length).ideal D).2

theorem tolds_ideal (D : List UInt8) (limit : Int) : ∀ (l : List Nw) (acc : List Nm), ((toldsP limit l acc).ideal D).1 = acc ++ l.map fun x => ((toldP limit x).ideal D).1
  | [], acc => by simp [toldsP, Pr.ideal]
  | x :: l, acc => by
    rw [toldsP, Pr.ideal_bind]
    simp only
    rw [tolds_ideal D limit l]
    simp
theorem rep_eq (P : Pol) (D : List UInt8) : repD P D =
    let d := dirOf P D
    let h := ((headP (tableOf tagHead d.tabs).1 (tableOf tagHead d.tabs).2).ideal D).1
    let r := ((rightsP (tableOf tagOs2 d.tabs).1 (tableOf tagOs2 d.tabs).2).ideal D).1
    let c := ((coverP (tableOf tagCmap d.tabs).1 (tableOf tagCmap d.tabs).2).ideal D).1
    ⟨d.kind, d.tabs.map tabOf, h.1, h.2.1, h.2.2, r.1, r.2.1, r.2.2, (nsOf P D).st, (nsOf P D).list.map fun x => ((toldP P.text x).ideal D).1, c.1, c.2.1, c.2.2⟩ := by
  unfold repD tellP
  rw [Pr.ideal_bind]
  simp only
  rw [Pr.ideal_bind]
  simp only
  rw [Pr.ideal_bind]
  simp only
  rw [Pr.ideal_bind]
  simp only
  rw [Pr.ideal_bind]
  simp only
  rw [Pr.ideal_bind]
  simp only [Pr.ideal]
  rw [tolds_ideal, List.nil_append]
  rfl

/-- which bytes are public -/
def Wn.hasB (v : Wn) (i : Nat) : Bool := decide (v.b ≤ i ∧ i < v.b + v.s)
theorem Wn.hasB_iff (v : Wn) (i : Nat) : v.hasB i = true ↔ v.has i := by simp [Wn.hasB, Wn.has]
theorem mark_get (v : Wn) (a : Bool) (l : List Bool) (i : Nat) : (markL v a l)[i]? = l[i]?.map fun x => if v.hasB i then a else x := by
  unfold markL Wn.hasB
  rw [List.getElem?_mapIdx]
  simp
theorem marks_true {α : Type} (c : α → Bool) (v : α → Wn) (i : Nat) : ∀ (l : List α) (p : List Bool), (l.foldl (fun p t => if c t = true then markL (v t) true p else p) p)[i]? = p[i]?.map fun x => x || l.any fun t => c t && (v t).hasB i
  | [], p => by simp
  | t :: l, p => by
    rw [List.foldl_cons, marks_true c v i l]
    cases hc : c t with
    | false => simp [hc]
    | true =>
      simp only [if_true, mark_get, List.any_cons, hc, Bool.true_and, Option.map_map]
      congr 1
      funext x
      simp only [Function.comp]
      cases (v t).hasB i <;> cases x <;> simp
theorem marks_false {α : Type} (c : α → Bool) (v : α → Wn) (i : Nat) : ∀ (l : List α) (p : List Bool), (l.foldl (fun p t => if c t = true then markL (v t) false p else p) p)[i]? = p[i]?.map fun x => x && !(l.any fun t => c t && (v t).hasB i)
  | [], p => by simp
  | t :: l, p => by
    rw [List.foldl_cons, marks_false c v i l]
    cases hc : c t with
    | false => simp [hc]
    | true =>
      simp only [if_true, mark_get, List.any_cons, hc, Bool.true_and, Option.map_map]
      congr 1
      funext x
      simp only [Function.comp]
      cases (v t).hasB i <;> cases x <;> simp
def pubB (n : Nat) (d : Dir) (ns : Ns) (i : Nat) : Bool :=
  (((((decide (i < 12) || d.recs.hasB i) || d.tabs.any fun t => decide (t.st = 0) && t.v.hasB i) && !(ns.list.any fun x => decide (x.st = 4) && x.v.hasB i)) || ns.ahead.hasB i) || ns.list.any fun x => decide (x.st = 0) && x.v.hasB i)
theorem pub_get (n : Nat) (d : Dir) (ns : Ns) (i : Nat) : (pubL n d ns)[i]? = if i < n then some (pubB n d ns i) else none := by
  have e1 : ∀ p, marksN 0 true ns.list p = ns.list.foldl (fun p t => if decide (t.st = 0) = true then markL t.v true p else p) p := by intro p; unfold marksN; simp
  have e2 : ∀ p, marksN 4 false ns.list p = ns.list.foldl (fun p t => if decide (t.st = 4) = true then markL t.v false p else p) p := by intro p; unfold marksN; simp
  have e3 : ∀ p, marksT d.tabs p = d.tabs.foldl (fun p t => if decide (t.st = 0) = true then markL t.v true p else p) p := by intro p; unfold marksT; simp
  unfold pubL pubB
  rw [e1, marks_true, mark_get, e2, marks_false, e3, marks_true, mark_get, mark_get, List.getElem?_replicate]
  by_cases h : i < n
  · rw [if_pos h, if_pos h]
    have hh : ((Wn.mk 0 n).cut 0 12).hasB i = decide (i < 12) := by
      unfold Wn.cut Wn.hasB
      apply decide_eq_decide.2
      simp only
      omega
    rw [hh]
    simp only [Option.map_some]
    congr 2
    congr 1
    · generalize ns.ahead.hasB i = a
      generalize d.recs.hasB i = b
      generalize decide (i < 12) = c
      cases a <;> cases b <;> cases c <;> simp
  · rw [if_neg h, if_neg h]
    rfl
theorem pub_length (n : Nat) (d : Dir) (ns : Ns) : (pubL n d ns).length = n := by
  have h1 : ∀ i, (pubL n d ns)[i]? = none ↔ n ≤ i := by
    intro i
    rw [pub_get]
    split
    · simp; omega
    · simp; omega
  have a := (h1 n).2 (Nat.le_refl _)
  rw [List.getElem?_eq_none_iff] at a
  have b : n ≤ (pubL n d ns).length := (h1 _).1 (List.getElem?_eq_none_iff.2 (Nat.le_refl _))
  omega

theorem pair_of {R : Tw → Tw → Prop} : ∀ {l : List Tw}, l.Pairwise R → ∀ a ∈ l, ∀ b ∈ l, a.tag ≠ b.tag → R a b ∨ R b a
  | [], h, a, ha, b, hb, hne => by simp at ha
  | x :: l, h, a, ha, b, hb, hne => by
    obtain ⟨h1, h2⟩ := List.pairwise_cons.1 h
    rcases List.mem_cons.1 ha with rfl | ha'
    · rcases List.mem_cons.1 hb with rfl | hb'
      · exact absurd rfl hne
      · exact .inl (h1 b hb')
    · rcases List.mem_cons.1 hb with rfl | hb'
      · exact .inr (h1 a ha')
      · exact pair_of h2 a ha' b hb' hne
theorem no_share {a b : Wn} {i : Nat} (h : a.shares b = false) (ha : a.has i) (hb : b.has i) : False := by
  unfold Wn.shares at h
  have := of_decide_eq_false h
  have := ha.1
  have := ha.2
  have := hb.1
  have := hb.2
  omega
section
variable (P : Pol) (D : List UInt8)
theorem dir_ok : DOk P D (dirOf P D) := (open_ok P D).1
theorem ns_ok : NsOk P (dirOf P D).tabs (nsOf P D) := (naming_ok P D _ _ _ (dir_ok P D).tabs).1

/-- the table of a tag, if it is Good -/
theorem good_table {tag : List UInt8} (h : (tableOf tag (dirOf P D).tabs).2 = 0) : ∃ t ∈ (dirOf P D).tabs, t.tag = tag ∧ t.st = 0 ∧ (tableOf tag (dirOf P D).tabs).1 = t.v ∧ 12 + 16 * (dirOf P D).tabs.length ≤ t.v.b ∧ t.v.b + t.v.s ≤ D.length := by
  rcases tableOf_mem tag (dirOf P D).tabs with ⟨t, ht, h1, h2⟩ | h2
  · rw [h2] at h ⊢
    exact ⟨t, ht, h1, h, rfl, ((dir_ok P D).tabs.all t ht).here (.inl h)⟩
  · rw [h2] at h
    simp at h
theorem hide_none {i : Nat} (h : i < 12 + 16 * (dirOf P D).tabs.length) : ((nsOf P D).list.any fun x => decide (x.st = 4) && x.v.hasB i) = false := by
  rw [Bool.eq_false_iff]
  intro ha
  obtain ⟨x, hx, hq⟩ := List.any_eq_true.1 ha
  rw [Bool.and_eq_true, Wn.hasB_iff] at hq
  cases hh : (nsOf P D).here with
  | false =>
    rw [((ns_ok P D).no hh).1] at hx
    simp at hx
  | true =>
    obtain ⟨_, h0, _, _, _, _, hN⟩ := (ns_ok P D).yes hh
    obtain ⟨t, ht, _, _, he, hb, _⟩ := good_table P D h0
    have := (hN x hx).inn
    rw [he] at this
    have := this.1
    have := hq.2.1
    omega
theorem pub_head {i : Nat} (h : i < 12) : pubB D.length (dirOf P D) (nsOf P D) i = true := by
  unfold pubB
  rw [hide_none P D (by omega)]
  simp [h]
theorem pub_recs {i : Nat} (h : (dirOf P D).recs.has i) : pubB D.length (dirOf P D) (nsOf P D) i = true := by
  have hlt : i < 12 + 16 * (dirOf P D).tabs.length := by
    cases hh : (dirOf P D).here with
    | false =>
      rw [((dir_ok P D).no hh).2] at h
      have := h.2
      simp at this
    | true =>
      rw [((dir_ok P D).yes hh).2.1] at h
      exact h.2
  unfold pubB
  rw [hide_none P D hlt, (Wn.hasB_iff _ _).2 h]
  simp
theorem pub_table {tag : List UInt8} {i : Nat} (hne : tag ≠ tagName) (h0 : (tableOf tag (dirOf P D).tabs).2 = 0) (h : (tableOf tag (dirOf P D).tabs).1.has i) : pubB D.length (dirOf P D) (nsOf P D) i = true := by
  obtain ⟨t, ht, htag, hst, he, hb, hl⟩ := good_table P D h0
  rw [he] at h
  have h1 : ((dirOf P D).tabs.any fun t => decide (t.st = 0) && t.v.hasB i) = true := List.any_eq_true.2 ⟨t, ht, by rw [(Wn.hasB_iff _ _).2 h]; simp [hst]⟩
  have h2 : ((nsOf P D).list.any fun x => decide (x.st = 4) && x.v.hasB i) = false := by
    rw [Bool.eq_false_iff]
    intro ha
    obtain ⟨x, hx, hq⟩ := List.any_eq_true.1 ha
    rw [Bool.and_eq_true, Wn.hasB_iff] at hq
    cases hh : (nsOf P D).here with
    | false =>
      rw [((ns_ok P D).no hh).1] at hx
      simp at hx
    | true =>
      obtain ⟨_, g0, _, _, _, _, hN⟩ := (ns_ok P D).yes hh
      obtain ⟨s, hs, hstag, hsst, hse, _, _⟩ := good_table P D g0
      have hin := (hN x hx).inn
      rw [hse] at hin
      have hsi := Wn.inn_has hin hq.2
      rcases pair_of (dir_ok P D).tabs.apart t ht s hs (by rw [htag, hstag]; exact hne) with hr | hr
      · exact no_share (hr (by simp [keeps, hst]) (by simp [keeps, hsst])) hsi h
      · exact no_share (hr (by simp [keeps, hsst]) (by simp [keeps, hst])) h hsi
  unfold pubB
  rw [h1, h2]
  simp
theorem pub_naming {i : Nat} (h : (tableOf tagName (dirOf P D).tabs).2 = 0 ∧ (tableOf tagName (dirOf P D).tabs).1.has i ∧ ((nsOf P D).here = true → (nsOf P D).ahead.has i)) : pubB D.length (dirOf P D) (nsOf P D) i = true := by
  obtain ⟨h0, h, ha⟩ := h
  cases hh : (nsOf P D).here with
  | true =>
    unfold pubB
    rw [(Wn.hasB_iff _ _).2 (ha hh)]
    simp
  | false =>
    obtain ⟨t, ht, htag, hst, he, hb, hl⟩ := good_table P D h0
    rw [he] at h
    have h1 : ((dirOf P D).tabs.any fun t => decide (t.st = 0) && t.v.hasB i) = true := List.any_eq_true.2 ⟨t, ht, by rw [(Wn.hasB_iff _ _).2 h]; simp [hst]⟩
    unfold pubB
    rw [h1, ((ns_ok P D).no hh).1]
    simp
theorem pub_text {i : Nat} {x : Nw} (hx : x ∈ (nsOf P D).list) (h0 : x.st = 0) (h : x.v.has i) : pubB D.length (dirOf P D) (nsOf P D) i = true := by
  have h1 : ((nsOf P D).list.any fun x => decide (x.st = 0) && x.v.hasB i) = true := List.any_eq_true.2 ⟨x, hx, by rw [(Wn.hasB_iff _ _).2 h]; simp [h0]⟩
  unfold pubB
  rw [h1]
  simp

theorem table_size (tag : List UInt8) : (tableOf tag (dirOf P D).tabs).1.s ≤ D.length := by
  rcases tableOf_mem tag (dirOf P D).tabs with ⟨t, ht, h1, h2⟩ | h2
  · rw [h2]
    have := ((dir_ok P D).tabs.all t ht).lies
    simp only
    omega
  · rw [h2]
    simp
theorem names_len : (nsOf P D).list.length ≤ 20 := by
  cases hh : (nsOf P D).here with
  | false =>
    rw [((ns_ok P D).no hh).1]
    simp
  | true => exact ((ns_ok P D).yes hh).2.2.2.2.2.1
theorem name_size {x : Nw} (hx : x ∈ (nsOf P D).list) : x.v.s ≤ D.length := by
  cases hh : (nsOf P D).here with
  | false =>
    rw [((ns_ok P D).no hh).1] at hx
    simp at hx
  | true =>
    have hN := ((ns_ok P D).yes hh).2.2.2.2.2.2 x hx
    have := table_size P D tagName
    have := hN.inn.1
    have := hN.inn.2
    omega
/-- how many bytes what is told asks for -/
def leastD : Nat := (if (dirOf P D).kind = 1 ∨ (dirOf P D).kind = 2 then 6 else 0) + 12 * (dirOf P D).tabs.length + 12 * (nsOf P D).list.length
theorem tell_acc : Acc D (tellP P D.length) (leastD P D) (64 * D.length + 4096) (fun i => pubB D.length (dirOf P D) (nsOf P D) i = true) := by
  have ho := (open_ok P D).2
  have hn := (naming_ok P D _ _ _ (dir_ok P D).tabs).2
  unfold tellP leastD
  refine Acc.next (12 * (nsOf P D).list.length) (63 * D.length + 3642) (ho.sub (T := fun i => pubB D.length (dirOf P D) (nsOf P D) i = true) ?_) ?_ ?_ (by omega)
  · intro i hi
    rcases hi with hi | hi
    · exact pub_head P D hi.1
    · exact pub_recs P D hi
  · show Acc D ((namingP P (dirOf P D).tabs).bind _) _ _ _
    refine Acc.next 0 (62 * D.length + 3000) (hn.sub (T := fun i => pubB D.length (dirOf P D) (nsOf P D) i = true) ?_) ?_ ?_ (by omega)
    · intro i hi
      exact pub_naming P D hi
    · refine Acc.next 0 (62 * D.length + 2900) ((acc_head D _ _).sub fun i hi => pub_table P D (by decide) hi.1 hi.2) ?_ (by omega) (by omega)
      refine Acc.next 0 (62 * D.length + 2800) ((acc_rights D _ _).sub fun i hi => pub_table P D (by decide) hi.1 hi.2) ?_ (by omega) (by omega)
      refine Acc.next (lo := 0) (hi := 20 * D.length) 0 (2 * D.length + 2800) ?_ ?_ (by omega) (by omega)
      · have h20 := names_len P D
        refine (acc_tolds D P.text (fun i => pubB D.length (dirOf P D) (nsOf P D) i = true) D.length (nsOf P D).list [] ?_).mono (Nat.le_refl _) ?_
        · intro x hx
          exact ⟨name_size P D hx, fun i h0 hi => pub_text P D hx h0 hi⟩
        · rw [Nat.mul_comm]
          exact Nat.mul_le_mul_right _ h20
      · have ht := table_size P D tagCmap
        exact Acc.next 0 0 ((acc_cover D _ _).sub fun i hi => pub_table P D (by decide) hi.1 hi.2) (Acc.ret D _ _) (by omega) (by show _ + (tableOf tagCmap (dirOf P D).tabs).1.s + 0 ≤ _; omega)
    · show 12 * (nsOf P D).list.length ≤ 12 * (nsOf P D).list.length + 0
      omega
  · show (if (dirOf P D).kind = 1 ∨ (dirOf P D).kind = 2 then 6 else 0) + 12 * (dirOf P D).tabs.length + 12 * (nsOf P D).list.length ≤ (if (dirOf P D).kind = 1 ∨ (dirOf P D).kind = 2 then 6 else 0) + 12 * (dirOf P D).tabs.length + 12 * (nsOf P D).list.length
    omega
theorem pub_acc : Acc D (pubP P D.length) 0 700 (fun i => pubB D.length (dirOf P D) (nsOf P D) i = true) := by
  have ho := (open_ok P D).2
  have hn := (naming_ok P D _ _ _ (dir_ok P D).tabs).2
  unfold pubP
  refine Acc.next 0 246 (ho.sub (T := fun i => pubB D.length (dirOf P D) (nsOf P D) i = true) ?_) ?_ (by omega) (by omega)
  · intro i hi
    rcases hi with hi | hi
    · exact pub_head P D hi.1
    · exact pub_recs P D hi
  · exact Acc.next 0 0 (hn.sub (T := fun i => pubB D.length (dirOf P D) (nsOf P D) i = true) fun i hi => pub_naming P D hi) (Acc.ret D _ _) (by omega) (by omega)
theorem pub_ideal : ((pubP P D.length).ideal D).1 = (dirOf P D, nsOf P D) := by
  unfold pubP
  rw [Pr.ideal_bind]
  simp only
  rw [Pr.ideal_bind]
  rfl

/-- Inspect under a budget -/
theorem insp_eq (b : Int) (h1 : P.ok = true) (h2 : D.length ≤ 2000) : inspOf P D b = if (trD P D).length ≤ b.toNat then (repD P D, ((trD P D).length, rd (trD P D)), 0) else (Rep.none, (b.toNat, rd ((trD P D).take b.toNat)), 4) := by
  unfold inspOf
  rw [if_neg (by simp [h1]), if_neg (by omega)]
  obtain ⟨r1, r2⟩ := Pr.run_ideal D (tellP P D.length) ⟨b.toNat, false, 0, 0⟩ rfl
  by_cases h : (trD P D).length ≤ b.toNat
  · rw [if_pos h, r1 h]
    simp only [Bool.false_eq_true, if_false, Nat.zero_add]
    rfl
  · rw [if_neg h]
    have := r2 (by simp only; unfold trD at h; omega)
    simp only [this, if_true, Nat.zero_add]
    rfl
theorem pubOf_eq (h1 : P.ok = true) (h2 : D.length ≤ 2000) : pubOf P D = (pubL D.length (dirOf P D) (nsOf P D), 0) := by
  unfold pubOf
  rw [if_neg (by simp [h1]), if_neg (by omega)]
  obtain ⟨r1, _⟩ := Pr.run_ideal D (pubP P D.length) ⟨9223372036854775807, false, 0, 0⟩ rfl
  have := (pub_acc P D).hi
  rw [r1 (by simp only; omega)]
  simp only
  rw [pub_ideal]
theorem steps_le : (trD P D).length ≤ 64 * D.length + 4096 := (tell_acc P D).hi
theorem reads_ge : leastD P D ≤ rd (trD P D) := (tell_acc P D).lo
theorem reads_le : rd (trD P D) ≤ (trD P D).length := rd_le _
end
/-- what is told hangs on public bytes alone -/
theorem blind_dir (P : Pol) (D E : List UInt8) (hl : E.length = D.length) (h : ∀ i, i < D.length → pubB D.length (dirOf P D) (nsOf P D) i = true → D.getD i 0 = E.getD i 0) : dirOf P E = dirOf P D ∧ nsOf P E = nsOf P D ∧ repD P E = repD P D ∧ trD P E = trD P D := by
  have h' : ∀ i, pubB D.length (dirOf P D) (nsOf P D) i = true → D.getD i 0 = E.getD i 0 := by
    intro i hi
    by_cases hlt : i < D.length
    · exact h i hlt hi
    · simp only [List.getD_eq_getElem?_getD]
      rw [List.getElem?_eq_none (by omega), List.getElem?_eq_none (by omega)]
  have e1 := Pr.ideal_same D E (pubP P D.length) fun i m => h' i ((pub_acc P D).s i m)
  have e2 := Pr.ideal_same D E (tellP P D.length) fun i m => h' i ((tell_acc P D).s i m)
  have e3 : (dirOf P E, nsOf P E) = (dirOf P D, nsOf P D) := by
    rw [← pub_ideal, ← pub_ideal, hl, e1]
  have e4 := Prod.mk.inj e3
  refine ⟨e4.1, e4.2, ?_, ?_⟩
  · unfold repD
    rw [hl, e2]
  · unfold trD
    rw [hl, e2]
theorem blind_pub (P : Pol) (D E : List UInt8) (hl : E.length = D.length) (h : ∀ i, i < D.length → (pubL D.length (dirOf P D) (nsOf P D))[i]? = some true → D.getD i 0 = E.getD i 0) : pubOf P E = pubOf P D ∧ ∀ b, inspOf P E b = inspOf P D b := by
  obtain ⟨h1, h2, h3, h4⟩ := blind_dir P D E hl fun i hi hp => h i hi (by rw [pub_get, if_pos hi, hp])
  by_cases ho : P.ok = true
  · by_cases hD : D.length ≤ 2000
    · refine ⟨?_, fun b => ?_⟩
      · rw [pubOf_eq P D ho hD, pubOf_eq P E ho (by omega), h1, h2, hl]
      · rw [insp_eq P D b ho hD, insp_eq P E b ho (by omega), h3, h4]
    · have a1 : 2000 < D.length := by omega
      have a2 : 2000 < E.length := by omega
      refine ⟨?_, fun b => ?_⟩
      · simp only [pubOf, ho, a1, a2, if_true, Bool.true_eq_false, if_false]
      · simp only [inspOf, ho, a1, a2, if_true, Bool.true_eq_false, if_false]
  · have ho' : P.ok = false := by simpa using ho
    refine ⟨?_, fun b => ?_⟩
    · unfold pubOf
      rw [if_pos ho', if_pos ho']
    · unfold inspOf
      rw [if_pos ho', if_pos ho']
end Go.Proofs.YteibjmlimcpaoaaGreatDoor

set_option linter.unusedVariables false
set_option linter.unusedSimpArgs false
namespace Go.Proofs.YteibjmlimcpaoaaGreatDoor

def winL (D : List UInt8) (v : Wn) : List UInt8 := (D.drop v.b).take v.s
def num1 (l : List UInt8) (i : Nat) : Nat := (l.getD i 0).toNat
def num2 (l : List UInt8) (i : Nat) : Nat := 256 * num1 l i + num1 l (i + 1)
def num4 (l : List UInt8) (i : Nat) : Nat := 65536 * num2 l i + num2 l (i + 2)
theorem num1_lt (l : List UInt8) (i : Nat) : num1 l i < 256 := UInt8.toNat_lt _
theorem num2_lt (l : List UInt8) (i : Nat) : num2 l i < 65536 := by
  unfold num2
  have := num1_lt l i
  have := num1_lt l (i + 1)
  omega
theorem num4_lt (l : List UInt8) (i : Nat) : num4 l i < 4294967296 := by
  unfold num4
  have := num2_lt l i
  have := num2_lt l (i + 2)
  omega
theorem winL_length (D : List UInt8) (v : Wn) (h : v.b + v.s ≤ D.length) : (winL D v).length = v.s := by
  unfold winL
  simp
  omega
theorem byteL (D : List UInt8) (v : Wn) (h : v.b + v.s ≤ D.length) (i : Nat) : ((v.byte i).ideal D).1 = num1 (winL D v) i := by
  unfold num1
  by_cases hi : i < v.s
  · rw [ideal_byte D v i hi]
    unfold winL
    simp [List.getD_eq_getElem?_getD, List.getElem?_take, List.getElem?_drop, hi]
  · have hl := winL_length D v h
    unfold Wn.byte
    rw [if_neg hi]
    simp [Pr.ideal, List.getD_eq_getElem?_getD, List.getElem?_eq_none (by omega : (winL D v).length ≤ i)]
theorem twoL' (D : List UInt8) (v : Wn) (h : v.b + v.s ≤ D.length) (i : Nat) : ((v.two i).ideal D).1 = num2 (winL D v) i := by
  rw [ideal_two, byteL D v h, byteL D v h]
  rfl
theorem fourL' (D : List UInt8) (v : Wn) (h : v.b + v.s ≤ D.length) (i : Nat) : ((v.four i).ideal D).1 = num4 (winL D v) i := by
  rw [ideal_four, twoL' D v h, twoL' D v h]
  rfl
theorem bytesL (D : List UInt8) (v : Wn) (h : v.b + v.s ≤ D.length) : (v.bytes.ideal D).1 = winL D v := ideal_bytes D v h
theorem cut_ok {D : List UInt8} {v : Wn} (h : v.b + v.s ≤ D.length) (a b : Nat) : (v.cut a b).b + (v.cut a b).s ≤ D.length := by
  have := (cut_inn v a b).2
  omega
theorem winL_cut (D : List UInt8) (v : Wn) (a b : Nat) : winL D (v.cut a b) = ((winL D v).drop a).take b := by
  unfold winL Wn.cut
  simp only
  rw [List.drop_take, List.take_take, List.drop_drop]
  by_cases h : a ≤ v.s
  · rw [Nat.min_eq_left h]
  · rw [show v.s - a = 0 by omega, show v.s - min a v.s = 0 by omega]
    simp
theorem num1_cut (l : List UInt8) (a b i : Nat) (h : i < b) : num1 ((l.drop a).take b) i = num1 l (a + i) := by
  unfold num1
  simp [List.getD_eq_getElem?_getD, List.getElem?_take, List.getElem?_drop, h]
theorem num2_cut (l : List UInt8) (a b i : Nat) (h : i + 1 < b) : num2 ((l.drop a).take b) i = num2 l (a + i) := by
  unfold num2
  rw [num1_cut l a b i (by omega), num1_cut l a b (i + 1) h, Nat.add_assoc]
theorem num4_cut (l : List UInt8) (a b i : Nat) (h : i + 3 < b) : num4 ((l.drop a).take b) i = num4 l (a + i) := by
  unfold num4
  rw [num2_cut l a b i (by omega), num2_cut l a b (i + 2) (by omega), Nat.add_assoc]

/-- head -/
def headL (l : List UInt8) : Nat × Nat × Nat :=
  if l.length < 54 then (5, 0, 0)
  else if (l.drop 12).take 4 ≠ [95, 15, 60, 245] ∨ num2 l 18 < 16 ∨ 16384 < num2 l 18 then (6, 0, 0)
  else (0, num2 l 16, num2 l 18)
theorem head_eq (D : List UInt8) (v : Wn) (st : Nat) (h : v.b + v.s ≤ D.length) : ((headP v st).ideal D).1 = if st ≠ 0 then (st, 0, 0) else headL (winL D v) := by
  unfold headP headL
  have hl := winL_length D v h
  split
  · rfl
  · rw [hl]
    split
    · rfl
    · rw [Pr.ideal_bind]
      simp only
      rw [Pr.ideal_bind]
      simp only
      rw [Pr.ideal_bind]
      simp only
      rw [bytesL D _ (cut_ok h _ _), winL_cut, twoL' D v h, twoL' D v h]
      split <;> rfl

/-- OS/2 -/
def rightsL (l : List UInt8) : Nat × Nat × Nat :=
  if l.length < 10 then (5, 0, 0)
  else if 5 < num2 l 0 then (7, 0, 0)
  else if otherBits (num2 l 8) = true ∨ (3 ≤ num2 l 0 ∧ 1 < usesOf (num2 l 8)) then (6, 0, 0)
  else (0, num2 l 0, num2 l 8)
theorem rights_eq (D : List UInt8) (v : Wn) (st : Nat) (h : v.b + v.s ≤ D.length) : ((rightsP v st).ideal D).1 = if st ≠ 0 then (st, 0, 0) else rightsL (winL D v) := by
  unfold rightsP rightsL
  have hl := winL_length D v h
  split
  · rfl
  · rw [hl]
    split
    · rfl
    · rw [Pr.ideal_bind]
      simp only
      rw [Pr.ideal_bind]
      simp only
      rw [twoL' D v h, twoL' D v h]
      split
      · rfl
      · split <;> rfl

/-- name, cmap: what becomes of one that begins with a 0 and the number of its records -/
def countL (l : List UInt8) (first size : Nat) : Nat :=
  if l.length < first then 5
  else if num2 l 0 ≠ 0 then 7
  else if 20 < num2 l 2 then 6
  else if first + size * num2 l 2 ≤ l.length then 0 else 5
theorem count_eq (D : List UInt8) (v : Wn) (first size : Nat) (h : v.b + v.s ≤ D.length) : ((countP v first size).ideal D).1 = (if countL (winL D v) first size = 0 then num2 (winL D v) 2 else 0, countL (winL D v) first size) := by
  unfold countP countL
  have hl := winL_length D v h
  rw [hl]
  split
  · rfl
  · rw [Pr.ideal_bind]
    simp only
    rw [twoL' D v h]
    split
    · rfl
    · rw [Pr.ideal_bind]
      simp only
      rw [twoL' D v h]
      split
      · rfl
      · by_cases e : first + size * num2 (winL D v) 2 ≤ v.s
        · have e' : holdsB v.s first (size * num2 (winL D v) 2) = true := decide_eq_true (by omega)
          rw [if_pos e', if_pos e]
          rfl
        · have e' : ¬ holdsB v.s first (size * num2 (winL D v) 2) = true := fun x => by have := of_decide_eq_true x; omega
          rw [if_neg e', if_neg e]
          rfl
theorem countL_mem (l : List UInt8) (first size : Nat) : countL l first size = 0 ∧ num2 l 0 = 0 ∧ num2 l 2 ≤ 20 ∧ first + size * num2 l 2 ≤ l.length ∨ countL l first size ∈ [5, 6, 7] := by
  unfold countL
  repeat' split
  all_goals first
    | (right; simp; done)
    | (left; refine ⟨rfl, ?_, ?_, ?_⟩ <;> omega)

/-- a name -/
def nameL (P : Pol) (l : List UInt8) (i : Nat) : Nw × List UInt8 :=
  let at_ := 6 + 12 * i
  let from_ := num2 l 4 + num2 l (at_ + 10)
  let size := num2 l (at_ + 8)
  (⟨num2 l at_, num2 l (at_ + 2), num2 l (at_ + 4), num2 l (at_ + 6), if P.ids.contains (num2 l (at_ + 6) : Int) then 4 else if from_ + size ≤ l.length then 0 else 2, ⟨from_, size⟩⟩, (l.drop from_).take size)
def toldL (P : Pol) (l : List UInt8) (i : Nat) : Nm :=
  let x := (nameL P l i).1
  if x.st = 0 then let r := textOf x.pl x.en (nameL P l i).2 P.text; ⟨x.pl, x.en, x.la, x.id, r.2.2, r.2.1, ⟨r.1.toArray⟩⟩ else ⟨x.pl, x.en, x.la, x.id, x.st, 0, ⟨#[]⟩⟩
theorem newN_eq (D : List UInt8) (P : Pol) (v : Wn) (h : v.b + v.s ≤ D.length) (i : Nat) (hi : 6 + 12 * i + 12 ≤ v.s) :
    newN D P v (num2 (winL D v) 4) (v.cut (6 + 12 * i) 12) = { (nameL P (winL D v) i).1 with v := v.cut (nameL P (winL D v) i).1.v.b (nameL P (winL D v) i).1.v.s } := by
  unfold newN nameL
  have hc := cut_ok h (6 + 12 * i) 12
  have hl := winL_length D v h
  rw [twoL' D _ hc, twoL' D _ hc, twoL' D _ hc, twoL' D _ hc, twoL' D _ hc, twoL' D _ hc, winL_cut, num2_cut _ _ _ _ (by omega), num2_cut _ _ _ _ (by omega), num2_cut _ _ _ _ (by omega), num2_cut _ _ _ _ (by omega), num2_cut _ _ _ _ (by omega), num2_cut _ _ _ _ (by omega)]
  simp only [Nat.add_zero, hl]
  have e : ∀ a b : Nat, (holdsB v.s a b = true) = (a + b ≤ v.s) := by
    intro a b
    unfold holdsB
    rw [decide_eq_true_eq]
    apply propext
    constructor <;> intro <;> omega
  simp only [e]
theorem told_eq (D : List UInt8) (P : Pol) (v : Wn) (h : v.b + v.s ≤ D.length) (i : Nat) (hi : 6 + 12 * i + 12 ≤ v.s) :
    ((toldP P.text (newN D P v (num2 (winL D v) 4) (v.cut (6 + 12 * i) 12))).ideal D).1 = toldL P (winL D v) i := by
  rw [newN_eq D P v h i hi]
  unfold toldP toldL
  simp only
  split
  · rw [Pr.ideal_bind, bytesL D _ (cut_ok h _ _), winL_cut]
    rfl
  · rfl
theorem names_list (D : List UInt8) (P : Pol) (t : Wn) (texts : Nat) : ∀ (k i : Nat) (l : List Nw), ((namesP P t texts k i l).ideal D).1 = l ++ (List.range' i k).map fun j => newN D P t texts (t.cut (6 + 12 * j) 12)
  | 0, i, l => by simp [namesP, Pr.ideal]
  | k + 1, i, l => by
    rw [namesP, Pr.ideal_bind, name_ideal, names_list D P t texts k (i + 1)]
    simp [List.range'_succ]
def namesL (P : Pol) (l : List UInt8) : List Nm := (List.range (num2 l 2)).map (toldL P l)
theorem naming_eq (D : List UInt8) (P : Pol) (tabs : List Tw) (h : (tableOf tagName tabs).1.b + (tableOf tagName tabs).1.s ≤ D.length) :
    ((namingP P tabs).ideal D).1 =
      (if (tableOf tagName tabs).2 ≠ 0 then ⟨(tableOf tagName tabs).2, false, ⟨0, 0⟩, []⟩
      else if countL (winL D (tableOf tagName tabs).1) 6 12 ≠ 0 then ⟨countL (winL D (tableOf tagName tabs).1) 6 12, false, ⟨0, 0⟩, []⟩
      else ⟨0, true, (tableOf tagName tabs).1.cut 0 (6 + 12 * num2 (winL D (tableOf tagName tabs).1) 2), (List.range (num2 (winL D (tableOf tagName tabs).1) 2)).map fun j => newN D P (tableOf tagName tabs).1 (num2 (winL D (tableOf tagName tabs).1) 4) ((tableOf tagName tabs).1.cut (6 + 12 * j) 12)⟩) := by
  unfold namingP
  rw [show ([110, 97, 109, 101] : List UInt8) = tagName from rfl]
  generalize (tableOf tagName tabs).1 = t at *
  generalize (tableOf tagName tabs).2 = st at *
  simp only
  split
  · rfl
  · rw [Pr.ideal_bind, count_eq D t 6 12 h]
    simp only
    split
    · rfl
    · rename_i h0
      have h0' : countL (winL D t) 6 12 = 0 := by omega
      rw [if_pos h0', Pr.ideal_bind, twoL' D t h]
      simp only
      rw [Pr.ideal_bind, names_list]
      simp [Pr.ideal, List.range_eq_range']
theorem names_eq (D : List UInt8) (P : Pol) (t : Wn) (h : t.b + t.s ≤ D.length) (h0 : countL (winL D t) 6 12 = 0) :
    ((List.range (num2 (winL D t) 2)).map fun j => newN D P t (num2 (winL D t) 4) (t.cut (6 + 12 * j) 12)).map (fun x => ((toldP P.text x).ideal D).1) = namesL P (winL D t) := by
  unfold namesL
  rw [List.map_map]
  apply List.map_congr_left
  intro j hj
  have hj' := List.mem_range.1 hj
  have hl := winL_length D t h
  rcases countL_mem (winL D t) 6 12 with hc | hc
  · exact told_eq D P t h j (by omega)
  · rw [h0] at hc
    simp at hc

/-- cmap -/
def partsL (l : List UInt8) : Nat → Nat → Nat → Nat → Nat × Nat
  | 0, i, best, begin => (best, begin)
  | k + 1, i, best, begin =>
    if rankOf (num2 l (4 + 8 * i)) (num2 l (4 + 8 * i + 2)) < best then partsL l k (i + 1) (rankOf (num2 l (4 + 8 * i)) (num2 l (4 + 8 * i + 2))) (num4 l (4 + 8 * i + 4))
    else partsL l k (i + 1) best begin
theorem parts_eq (D : List UInt8) (v : Wn) (h : v.b + v.s ≤ D.length) : ∀ (k i best begin : Nat), ((partsP v k i best begin).ideal D).1 = partsL (winL D v) k i best begin
  | 0, i, best, begin => rfl
  | k + 1, i, best, begin => by
    have hc := cut_ok h (4 + 8 * i) 8
    rw [partsP, partsL, Pr.ideal_bind]
    simp only
    rw [Pr.ideal_bind]
    simp only
    rw [twoL' D _ hc, twoL' D _ hc, winL_cut, num2_cut _ _ _ _ (by omega), num2_cut _ _ _ _ (by omega), Nat.add_zero]
    split
    · rw [Pr.ideal_bind]
      simp only
      rw [fourL' D _ hc, winL_cut, num4_cut _ _ _ _ (by omega), parts_eq D v h k]
    · rw [parts_eq D v h k]
/-- ranges: how many numbers, the last one's last -/
def rangesL : List (Nat × Nat) → Nat → Int → Option (Nat × Int)
  | [], count, e => some (count, e)
  | x :: r, count, e => if x.2 < x.1 ∨ (x.1 : Int) ≤ e then none else rangesL r (count + (x.2 - x.1 + 1)) (x.2 : Int)
theorem ranges_eq (D : List UInt8) (bounds : Nat → Pr (Nat × Nat)) : ∀ (k i count : Nat) (e : Int), ((rangesP bounds k i count e).ideal D).1 = rangesL ((List.range' i k).map fun j => ((bounds j).ideal D).1) count e
  | 0, i, count, e => rfl
  | k + 1, i, count, e => by
    rw [rangesP, Pr.ideal_bind]
    simp only [List.range'_succ, List.map_cons, rangesL]
    split
    · rfl
    · rw [ranges_eq D bounds k]
def spans4 (l : List UInt8) : List (Nat × Nat) := (List.range (num2 l 6 / 2)).map fun i => (num2 l (16 + num2 l 6 + 2 * i), num2 l (14 + 2 * i))
def spans12 (l : List UInt8) : List (Nat × Nat) := (List.range (num4 l 12)).map fun i => (num4 l (16 + 12 * i), num4 l (20 + 12 * i))
def fourL4 (l : List UInt8) : Int × Nat :=
  if num2 l 2 < 16 ∨ l.length < num2 l 2 then (0, 5)
  else if num2 l 6 = 0 ∨ num2 l 6 % 2 ≠ 0 then (0, 6)
  else if num2 l 2 < 16 + 4 * num2 l 6 then (0, 5)
  else match rangesL (spans4 l) 0 (-1) with
    | none => (0, 6)
    | some (n, e) => if e ≠ 65535 then (0, 6) else ((n : Int) - 1, 0)
def twelveL (l : List UInt8) : Int × Nat :=
  if num4 l 4 < 16 ∨ l.length < num4 l 4 ∨ num4 l 4 < 16 + 12 * num4 l 12 then (0, 5)
  else match rangesL (spans12 l) 0 (-1) with
    | none => (0, 6)
    | some (n, e) => if 1114111 < e then (0, 6) else ((n : Int), 0)
theorem small_eq (D : List UInt8) (v : Wn) (h : v.b + v.s ≤ D.length) : ((countSmallP v).ideal D).1 = fourL4 (winL D v) := by
  have hl := winL_length D v h
  unfold countSmallP fourL4
  rw [hl, Pr.ideal_bind]
  simp only
  rw [Pr.ideal_bind]
  simp only
  rw [twoL' D v h, twoL' D v h]
  split
  · rfl
  · split
    · rfl
    · split
      · rfl
      · rw [Pr.ideal_bind, ranges_eq]
        have e : ((List.range' 0 (num2 (winL D v) 6 / 2)).map fun j => ((smallP v (num2 (winL D v) 6) j).ideal D).1) = spans4 (winL D v) := by
          unfold spans4
          rw [List.range_eq_range']
          apply List.map_congr_left
          intro j _
          unfold smallP
          rw [Pr.ideal_bind]
          simp only
          rw [Pr.ideal_bind]
          simp only [Pr.ideal]
          rw [twoL' D v h, twoL' D v h]
        rw [e]
        generalize rangesL (spans4 (winL D v)) 0 (-1) = r
        cases r with
        | none => rfl
        | some x =>
          obtain ⟨n, e⟩ := x
          simp only
          split <;> rfl
theorem great_eq (D : List UInt8) (v : Wn) (h : v.b + v.s ≤ D.length) : ((countGreatP v).ideal D).1 = twelveL (winL D v) := by
  have hl := winL_length D v h
  unfold countGreatP twelveL
  rw [hl, Pr.ideal_bind]
  simp only
  rw [Pr.ideal_bind]
  simp only
  rw [fourL' D v h, fourL' D v h]
  split
  · rfl
  · rw [Pr.ideal_bind, ranges_eq]
    have e : ((List.range' 0 (num4 (winL D v) 12)).map fun j => ((greatP v j).ideal D).1) = spans12 (winL D v) := by
      unfold spans12
      rw [List.range_eq_range']
      apply List.map_congr_left
      intro j _
      unfold greatP
      rw [Pr.ideal_bind]
      simp only
      rw [Pr.ideal_bind]
      simp only [Pr.ideal]
      rw [fourL' D v h, fourL' D v h]
    rw [e]
    generalize rangesL (spans12 (winL D v)) 0 (-1) = r
    cases r with
    | none => rfl
    | some x =>
      obtain ⟨n, e⟩ := x
      simp only
      split <;> rfl
def coverL (l : List UInt8) : Nat × Nat × Int :=
  if countL l 4 8 ≠ 0 then (countL l 4 8, 0, 0)
  else
    let r := partsL l (num2 l 2) 0 3 0
    if r.1 = 3 then (7, 0, 0)
    else if l.length < r.2 + 2 then (5, 0, 0)
    else
      let q := l.drop r.2
      let form := num2 q 0
      let c := if form = 4 then fourL4 q else if form = 12 then twelveL q else (0, 7)
      if c.2 ≠ 0 then (c.2, 0, 0) else (0, form, c.1)
theorem cover_eq (D : List UInt8) (v : Wn) (st : Nat) (h : v.b + v.s ≤ D.length) : ((coverP v st).ideal D).1 = if st ≠ 0 then (st, 0, 0) else coverL (winL D v) := by
  have hl := winL_length D v h
  unfold coverP coverL
  split
  · rfl
  · rw [Pr.ideal_bind]
    simp only
    unfold partP
    rw [Pr.ideal_bind, count_eq D v 4 8 h]
    simp only
    by_cases h0 : countL (winL D v) 4 8 ≠ 0
    · rw [if_pos h0, if_pos h0]
      show ((if countL (winL D v) 4 8 ≠ 0 then (.ret (countL (winL D v) 4 8, 0, 0) : Pr (Nat × Nat × Int)) else _).ideal D).1 = _
      rw [if_pos h0]
      rfl
    · have h0' : countL (winL D v) 4 8 = 0 := by omega
      rw [if_neg h0, if_neg h0, if_pos h0', Pr.ideal_bind, parts_eq D v h]
      generalize partsL (winL D v) (num2 (winL D v) 2) 0 3 0 = r
      simp only
      by_cases h3 : r.1 = 3
      · rw [if_pos h3, if_pos h3]
        rfl
      · rw [if_neg h3, if_neg h3]
        have hs : (v.cut r.2 v.s).s = v.s - r.2 := by
          unfold Wn.cut
          simp only
          omega
        rw [hs, hl]
        by_cases h5 : v.s - r.2 < 2
        · rw [if_pos h5, if_pos (show v.s < r.2 + 2 by omega)]
          rfl
        · rw [if_neg h5, if_neg (show ¬ v.s < r.2 + 2 by omega)]
          simp only [Pr.ideal]
          have hq : winL D (v.cut r.2 v.s) = (winL D v).drop r.2 := by
            rw [winL_cut, List.take_of_length_le (by simp [hl])]
          have hc := cut_ok h r.2 v.s
          show ((((v.cut r.2 v.s).two 0).bind fun form => (if form = 4 then countSmallP (v.cut r.2 v.s) else if form = 12 then countGreatP (v.cut r.2 v.s) else .ret (0, 7)).bind fun c => if c.2 ≠ 0 then (.ret (c.2, 0, 0) : Pr (Nat × Nat × Int)) else .ret (0, form, c.1)).ideal D).1 = _
          rw [Pr.ideal_bind, twoL' D _ hc, hq]
          simp only
          rw [Pr.ideal_bind]
          simp only
          generalize hw : num2 ((winL D v).drop r.2) 0 = form
          have e : ((if form = 4 then countSmallP (v.cut r.2 v.s) else if form = 12 then countGreatP (v.cut r.2 v.s) else .ret (0, 7)).ideal D).1 = if form = 4 then fourL4 ((winL D v).drop r.2) else if form = 12 then twelveL ((winL D v).drop r.2) else (0, 7) := by
            split
            · rw [small_eq D _ hc, hq]
            · split
              · rw [great_eq D _ hc, hq]
              · rfl
          rw [e]
          generalize (if form = 4 then fourL4 ((winL D v).drop r.2) else if form = 12 then twelveL ((winL D v).drop r.2) else ((0, 7) : Int × Nat)) = c
          by_cases hz : c.2 ≠ 0
          · rw [if_pos hz, if_pos hz]
            rfl
          · rw [if_neg hz, if_neg hz]
            rfl
end Go.Proofs.YteibjmlimcpaoaaGreatDoor

set_option linter.unusedVariables false
set_option linter.unusedSimpArgs false
namespace Go.Proofs.YteibjmlimcpaoaaGreatDoor

/-- a table, under any budget -/
structure TB (n : Nat) (t : Tw) : Prop where
  st : t.st ≤ 4
  v : t.v.b + t.v.s ≤ n
theorem status_le (D : List UInt8) (P : Pol) (l : List Tw) (tag : List UInt8) (v : Wn) (inside : Bool) (m : Mt) : ((statusP P l tag v inside).run D m).1 ≤ 4 := by
  rw [status_eq]
  split
  · simp [Pr.run]
  · split
    · simp [Pr.run]
    · rw [Pr.run_bind]
      simp only [Pr.run]
      repeat' split
      all_goals omega
theorem add_any (D : List UInt8) (P : Pol) (n e : Nat) (l : List Tw) (r : Wn) (m : Mt) : ∃ x, ((addP P n e l r).run D m).1 = l ++ [x] ∧ TB n x := by
  unfold addP
  rw [Pr.run_bind]
  try simp only
  rw [Pr.run_bind]
  try simp only
  rw [Pr.run_bind]
  try simp only
  rw [Pr.run_bind]
  refine ⟨_, rfl, status_le D P l _ _ _ _, ?_⟩
  generalize ((r.four 8).run D ((r.cut 0 4).bytes.run D m).2).1 = b
  generalize ((r.four 12).run D ((r.four 8).run D ((r.cut 0 4).bytes.run D m).2).2).1 = s
  try simp only
  split
  · rename_i h
    simp only [Bool.and_eq_true, decide_eq_true_eq, holdsB] at h
    try simp only
    omega
  · simp
theorem adds_any (D : List UInt8) (P : Pol) (n : Nat) (recs : Wn) : ∀ (k i : Nat) (l : List Tw) (m : Mt), (∀ t ∈ l, TB n t) → (∀ t ∈ ((addsP P n recs k i l).run D m).1, TB n t) ∧ ((addsP P n recs k i l).run D m).1.length = l.length + k
  | 0, i, l, m, h => ⟨h, rfl⟩
  | k + 1, i, l, m, h => by
    rw [addsP, Pr.run_bind]
    obtain ⟨x, hx, hb⟩ := add_any D P n (recs.b + recs.s) l (recs.cut (16 * i) 16) m
    rw [hx]
    obtain ⟨r1, r2⟩ := adds_any D P n recs k (i + 1) (l ++ [x]) ((addP P n (recs.b + recs.s) l (recs.cut (16 * i) 16)).run D m).2 (by
      intro t ht
      rcases List.mem_append.1 ht with ht | ht
      · exact h t ht
      · rw [List.mem_singleton.1 ht]; exact hb)
    exact ⟨r1, by rw [r2]; simp; omega⟩
/-- what open answers, under any budget -/
structure DB (n : Nat) (d : Dir) : Prop where
  kind : d.kind ≤ 3
  tabs : ∀ t ∈ d.tabs, TB n t
  len : d.tabs.length ≤ 16
  recs : d.recs.b + d.recs.s ≤ n
  no : d.here = false → d.tabs = [] ∧ d.recs = ⟨0, 0⟩
theorem open_any (D : List UInt8) (P : Pol) (n : Nat) (m : Mt) : DB n ((openP P n).run D m).1 := by
  unfold openP
  split
  · exact ⟨by simp [Pr.run], by simp [Pr.run], by simp [Pr.run], by simp [Pr.run], fun _ => ⟨rfl, rfl⟩⟩
  · rw [Pr.run_bind]
    generalize ((Wn.bytes ⟨0, 4⟩).run D m).1 = o
    try simp only
    split
    · rw [Pr.run_bind]
      generalize hc : ((Wn.two ⟨0, 12⟩ 4).run D ((Wn.bytes ⟨0, 4⟩).run D m).2).1 = c
      try simp only
      split
      · exact ⟨by simp [Pr.run], by simp [Pr.run], by simp [Pr.run], by simp [Pr.run], fun _ => ⟨rfl, rfl⟩⟩
      · rename_i h
        rw [Pr.run_bind]
        obtain ⟨r1, r2⟩ := adds_any D P n ⟨12, 16 * c⟩ c 0 [] ((Wn.two ⟨0, 12⟩ 4).run D ((Wn.bytes ⟨0, 4⟩).run D m).2).2 (by simp)
        have hh : 12 + 16 * c ≤ n := by
          have : holdsB n 12 (16 * c) = true := by
            cases h' : holdsB n 12 (16 * c) with
            | true => rfl
            | false => exact absurd (.inr h') h
          simp only [holdsB, decide_eq_true_eq] at this
          omega
        refine ⟨kindOf_le o, r1, ?_, ?_, fun h => by simp [Pr.run] at h⟩
        · exact Nat.le_trans (Nat.le_of_eq r2) (by simp; omega)
        · show 12 + 16 * c ≤ n
          exact hh
    · exact ⟨kindOf_le o, by simp [Pr.run], by simp [Pr.run], by simp [Pr.run], fun _ => ⟨rfl, rfl⟩⟩
theorem tableOf_any {n : Nat} {l : List Tw} (h : ∀ t ∈ l, TB n t) (tag : List UInt8) : (tableOf tag l).2 ≤ 8 ∧ (tableOf tag l).1.b + (tableOf tag l).1.s ≤ n := by
  rcases tableOf_mem tag l with ⟨t, ht, _, he⟩ | he
  · rw [he]
    have := h t ht
    exact ⟨Nat.le_trans this.st (by omega), this.v⟩
  · rw [he]
    simp
/-- a name, under any budget -/
structure NB (n : Nat) (x : Nw) : Prop where
  pl : x.pl < 65536
  en : x.en < 65536
  la : x.la < 65536
  id : x.id < 65536
  st : x.st ≤ 4
  v : x.v.b + x.v.s ≤ n
theorem bnd2 (D : List UInt8) (t : Wn) (i : Nat) (m : Mt) : ((t.two i).run D m).1 < 65536 := by
  have hb : ∀ (t : Wn) (i : Nat) (m : Mt), ((t.byte i).run D m).1 < 256 := by
    intro t i m
    unfold Wn.byte
    split
    · simp only [Pr.run]
      exact UInt8.toNat_lt _
    · simp [Pr.run]
  unfold Wn.two
  rw [Pr.run_bind, Pr.run_bind]
  simp only [Pr.run]
  have h1 := hb t i m
  have h2 := hb t (i + 1) ((t.byte i).run D m).2
  omega
theorem name_any (D : List UInt8) (P : Pol) (t : Wn) (texts n : Nat) (r : Wn) (m : Mt) (ht : t.b + t.s ≤ n) : NB n ((nameP P t texts r).run D m).1 := by
  unfold nameP
  rw [Pr.run_bind]
  try simp only
  rw [Pr.run_bind]
  try simp only
  rw [Pr.run_bind]
  try simp only
  rw [Pr.run_bind]
  try simp only
  rw [Pr.run_bind]
  try simp only
  rw [Pr.run_bind]
  refine ⟨bnd2 _ _ _ _, bnd2 _ _ _ _, bnd2 _ _ _ _, bnd2 _ _ _ _, ?_, ?_⟩
  · simp only [Pr.run]
    repeat' split
    all_goals omega
  · have := (cut_inn t (texts + ((r.two 10).run D ((r.two 8).run D ((r.two 6).run D ((r.two 4).run D ((r.two 2).run D ((r.two 0).run D m).2).2).2).2).2).1) ((r.two 8).run D ((r.two 6).run D ((r.two 4).run D ((r.two 2).run D ((r.two 0).run D m).2).2).2).2).1).2
    simp only [Pr.run]
    omega
theorem names_any (D : List UInt8) (P : Pol) (t : Wn) (texts n : Nat) (ht : t.b + t.s ≤ n) : ∀ (k i : Nat) (l : List Nw) (m : Mt), (∀ x ∈ l, NB n x) → (∀ x ∈ ((namesP P t texts k i l).run D m).1, NB n x) ∧ ((namesP P t texts k i l).run D m).1.length = l.length + k
  | 0, i, l, m, h => ⟨h, rfl⟩
  | k + 1, i, l, m, h => by
    rw [namesP, Pr.run_bind]
    obtain ⟨r1, r2⟩ := names_any D P t texts n ht k (i + 1) (l ++ [((nameP P t texts (t.cut (6 + 12 * i) 12)).run D m).1]) ((nameP P t texts (t.cut (6 + 12 * i) 12)).run D m).2 (by
      intro x hx
      rcases List.mem_append.1 hx with hx | hx
      · exact h x hx
      · rw [List.mem_singleton.1 hx]; exact name_any D P t texts n _ m ht)
    exact ⟨r1, by rw [r2]; simp; omega⟩
/-- what naming answers, under any budget -/
structure SB (n : Nat) (ns : Ns) : Prop where
  st : ns.st ≤ 8
  list : ∀ x ∈ ns.list, NB n x
  len : ns.list.length ≤ 20
  ahead : ns.ahead.b + ns.ahead.s ≤ n
theorem count_any (D : List UInt8) (t : Wn) (first size : Nat) (m : Mt) : ((countP t first size).run D m).1.1 ≤ 20 ∧ ((countP t first size).run D m).1.2 ≤ 8 := by
  unfold countP
  split
  · simp [Pr.run]
  · rw [Pr.run_bind]
    try simp only
    split
    · simp [Pr.run]
    · rw [Pr.run_bind]
      try simp only
      split
      · simp [Pr.run]
      · split
        · simp only [Pr.run]
          omega
        · simp [Pr.run]
theorem naming_any (D : List UInt8) (P : Pol) (l : List Tw) (n : Nat) (m : Mt) (h : ∀ t ∈ l, TB n t) : SB n ((namingP P l).run D m).1 := by
  have ht := tableOf_any h tagName
  unfold namingP
  rw [show ([110, 97, 109, 101] : List UInt8) = tagName from rfl]
  try simp only
  split
  · exact ⟨ht.1, by simp [Pr.run], by simp [Pr.run], by simp [Pr.run]⟩
  · rw [Pr.run_bind]
    have hc := count_any D (tableOf tagName l).1 6 12 m
    generalize (countP (tableOf tagName l).1 6 12).run D m = c at *
    try simp only
    split
    · exact ⟨hc.2, by simp [Pr.run], by simp [Pr.run], by simp [Pr.run]⟩
    · rw [Pr.run_bind]
      try simp only
      rw [Pr.run_bind]
      obtain ⟨r1, r2⟩ := names_any D P (tableOf tagName l).1 (((tableOf tagName l).1.two 4).run D c.2).1 n ht.2 c.1.1 0 [] (((tableOf tagName l).1.two 4).run D c.2).2 (by simp)
      refine ⟨by simp [Pr.run], r1, ?_, ?_⟩
      · exact Nat.le_trans (Nat.le_of_eq r2) (by simpa using hc.1)
      · have := (cut_inn (tableOf tagName l).1 0 (6 + 12 * c.1.1)).2
        simp only [Pr.run]
        omega
end Go.Proofs.YteibjmlimcpaoaaGreatDoor

set_option linter.unusedVariables false
set_option linter.unusedSimpArgs false
namespace Go.Proofs.YteibjmlimcpaoaaGreatDoor.V

def kindL (l : List UInt8) : Nat × Nat :=
  if l.length < 12 then (0, 0)
  else if kindOf (l.take 4) = 3 then (3, 0)
  else if kindOf (l.take 4) = 0 ∨ 16 < num2 l 4 ∨ l.length < 12 + 16 * num2 l 4 then (0, 0)
  else (kindOf (l.take 4), num2 l 4)

/-- a window: as it is told, and where it lies -/
structure Wd where
  tag : List UInt8
  st : Nat
  size : Nat
  fr : Nat
  to : Nat
def lastWd (l : List Wd) (tag : List UInt8) : Bool := match l.getLast? with | some x => leL tag x.tag | none => false
def sharesW (x : Wd) (fr to : Nat) : Bool := decide ((x.st = 0 ∨ x.st = 4) ∧ x.fr < to ∧ fr < x.to ∧ x.fr < x.to ∧ fr < to)
def statW (P : Pol) (N e : Nat) (l : List Wd) (tag : List UInt8) (fr to : Nat) : Nat :=
  if lastWd l tag = true then 1 else if N < to ∨ fr < e then 2 else if (l.any fun x => sharesW x fr to) = true then 3 else if P.tags.contains tag = true then 4 else 0
def newWd (P : Pol) (D : List UInt8) (n : Nat) (l : List Wd) (i : Nat) : Wd :=
  ⟨(D.drop (12 + 16 * i)).take 4, statW P D.length (12 + 16 * n) l ((D.drop (12 + 16 * i)).take 4) (num4 D (12 + 16 * i + 8)) (num4 D (12 + 16 * i + 8) + num4 D (12 + 16 * i + 12)),
    if D.length < num4 D (12 + 16 * i + 8) + num4 D (12 + 16 * i + 12) ∨ num4 D (12 + 16 * i + 8) < 12 + 16 * n then 0 else num4 D (12 + 16 * i + 12),
    num4 D (12 + 16 * i + 8), num4 D (12 + 16 * i + 8) + num4 D (12 + 16 * i + 12)⟩
def winsR (P : Pol) (D : List UInt8) (n : Nat) : Nat → List Wd
  | 0 => []
  | k + 1 => winsR P D n k ++ [newWd P D n (winsR P D n k) k]
theorem winsR_length (P : Pol) (D : List UInt8) (n : Nat) : ∀ k, (winsR P D n k).length = k
  | 0 => rfl
  | k + 1 => by simp [winsR, winsR_length P D n k]
def twOf (N e : Nat) (x : Wd) : Tw := ⟨x.tag, x.st, x.size, if N < x.to ∨ x.fr < e then ⟨0, 0⟩ else ⟨x.fr, x.to - x.fr⟩⟩
/-- what holds of a window -/
structure WdOk (N e : Nat) (x : Wd) : Prop where
  here : x.st = 0 ∨ x.st = 4 → x.to ≤ N ∧ e ≤ x.fr
  le : x.fr ≤ x.to
  lt : x.fr < 4294967296
  lt2 : x.to < 8589934592
  size : x.size = if N < x.to ∨ x.fr < e then 0 else x.to - x.fr
  tag : x.tag.length ≤ 4
  st : x.st ≤ 4
theorem newWd_ok (P : Pol) (D : List UInt8) (n : Nat) (l : List Wd) (i : Nat) : WdOk D.length (12 + 16 * n) (newWd P D n l i) := by
  have h1 := num4_lt D (12 + 16 * i + 8)
  have h2 := num4_lt D (12 + 16 * i + 12)
  refine ⟨?_, ?_, ?_, ?_, ?_, ?_, ?_⟩
  · intro h
    simp only [newWd, statW] at h ⊢
    split at h
    · omega
    · split at h
      · omega
      · omega
  · simp only [newWd]; omega
  · simp only [newWd]; omega
  · simp only [newWd]; omega
  · simp only [newWd, Nat.add_sub_cancel_left]
  · simp only [newWd]
    rw [List.length_take]
    omega
  · simp only [newWd, statW]
    repeat' split
    all_goals omega
theorem winsR_ok (P : Pol) (D : List UInt8) (n : Nat) : ∀ k, ∀ x ∈ winsR P D n k, WdOk D.length (12 + 16 * n) x
  | 0, x, h => by simp [winsR] at h
  | k + 1, x, h => by
    rcases List.mem_append.1 h with h | h
    · exact winsR_ok P D n k x h
    · rw [List.mem_singleton.1 h]
      exact newWd_ok P D n _ k
theorem cut16 (n i : Nat) (h : i < n) : (Wn.mk 12 (16 * n)).cut (16 * i) 16 = ⟨12 + 16 * i, 16⟩ := by
  unfold Wn.cut
  simp only [Wn.mk.injEq]
  omega
theorem rec_is (D : List UInt8) (n i : Nat) (h : i < n) (hD : 12 + 16 * n ≤ D.length) :
    recT D D.length (12 + 16 * n) ((Wn.mk 12 (16 * n)).cut (16 * i) 16) = ((D.drop (12 + 16 * i)).take 4,
      !decide (D.length < num4 D (12 + 16 * i + 8) + num4 D (12 + 16 * i + 12) ∨ num4 D (12 + 16 * i + 8) < 12 + 16 * n),
      if D.length < num4 D (12 + 16 * i + 8) + num4 D (12 + 16 * i + 12) ∨ num4 D (12 + 16 * i + 8) < 12 + 16 * n then ⟨0, 0⟩ else ⟨num4 D (12 + 16 * i + 8), num4 D (12 + 16 * i + 12)⟩) := by
  rw [cut16 n i h]
  have hc : (Wn.mk (12 + 16 * i) 16).b + (Wn.mk (12 + 16 * i) 16).s ≤ D.length := by simp only; omega
  have e8 : (((Wn.mk (12 + 16 * i) 16).four 8).ideal D).1 = num4 D (12 + 16 * i + 8) := by
    rw [fourL' D _ hc]
    exact num4_cut D (12 + 16 * i) 16 8 (by omega)
  have e12 : (((Wn.mk (12 + 16 * i) 16).four 12).ideal D).1 = num4 D (12 + 16 * i + 12) := by
    rw [fourL' D _ hc]
    exact num4_cut D (12 + 16 * i) 16 12 (by omega)
  have et : (((Wn.mk (12 + 16 * i) 16).cut 0 4).bytes.ideal D).1 = (D.drop (12 + 16 * i)).take 4 := by
    rw [bytesL D _ (cut_ok hc _ _), winL_cut]
    unfold winL
    rw [List.drop_zero, List.take_take]
    rfl
  unfold recT
  rw [e8, e12, et]
  generalize num4 D (12 + 16 * i + 8) = a
  generalize num4 D (12 + 16 * i + 12) = b
  have hi : (decide (12 + 16 * n ≤ a) && holdsB D.length a b) = !decide (D.length < a + b ∨ a < 12 + 16 * n) := by
    unfold holdsB
    rw [Bool.eq_iff_iff]
    simp only [Bool.and_eq_true, decide_eq_true_eq, Bool.not_eq_true', decide_eq_false_iff_not]
    omega
  simp only [hi]
  by_cases hx : D.length < a + b ∨ a < 12 + 16 * n
  · simp [hx]
  · simp [hx]
theorem last_map (N e : Nat) (l : List Wd) (tag : List UInt8) : unsB (l.map (twOf N e)) tag = lastWd l tag := by
  unfold unsB lastTag lastWd
  rw [List.getLast?_map]
  cases l.getLast? <;> rfl
theorem any_map (N e : Nat) (l : List Wd) (fr sz : Nat) (h : ∀ x ∈ l, WdOk N e x) (hin : ¬ (N < fr + sz ∨ fr < e)) : ((l.map (twOf N e)).any fun t => keeps t && (Wn.mk fr sz).shares t.v) = l.any fun x => sharesW x fr (fr + sz) := by
  rw [List.any_map]
  rw [Bool.eq_iff_iff, List.any_eq_true, List.any_eq_true]
  apply exists_congr
  intro x
  apply and_congr_right
  intro hx
  have hk := h x hx
  show (decide (x.st = 0 ∨ x.st = 4) && (Wn.mk fr sz).shares (twOf N e x).v) = true ↔ _
  unfold sharesW
  rw [Bool.and_eq_true, decide_eq_true_eq, decide_eq_true_eq]
  apply and_congr_right
  intro h1
  have h3 := hk.here h1
  have h4 := hk.le
  have hv : (twOf N e x).v = ⟨x.fr, x.to - x.fr⟩ := by
    unfold twOf
    exact if_neg (by omega)
  rw [hv]
  unfold Wn.shares
  rw [decide_eq_true_eq]
  simp only
  omega
theorem new_is (P : Pol) (D : List UInt8) (n i : Nat) (l : List Wd) (h : i < n) (hD : 12 + 16 * n ≤ D.length) (hl : ∀ x ∈ l, WdOk D.length (12 + 16 * n) x) :
    newT D P D.length (12 + 16 * n) (l.map (twOf D.length (12 + 16 * n))) ((Wn.mk 12 (16 * n)).cut (16 * i) 16) = twOf D.length (12 + 16 * n) (newWd P D n l i) := by
  unfold newT
  rw [rec_is D n i h hD]
  simp only [status_ideal, last_map]
  unfold newWd statW
  generalize num4 D (12 + 16 * i + 8) = a
  generalize num4 D (12 + 16 * i + 12) = b
  generalize (D.drop (12 + 16 * i)).take 4 = tag
  by_cases hx : D.length < a + b ∨ a < 12 + 16 * n
  · simp only [hx, if_true, decide_true, Bool.not_true, twOf]
  · have ha := any_map D.length (12 + 16 * n) l a b hl hx
    simp only [hx, if_false, decide_false, Bool.not_false, ha]
    simp only [Bool.true_eq_false, if_false, twOf, hx, Nat.add_sub_cancel_left]
theorem adds_is (P : Pol) (D : List UInt8) (n : Nat) (hD : 12 + 16 * n ≤ D.length) : ∀ (k i : Nat), i + k ≤ n →
    ((addsP P D.length ⟨12, 16 * n⟩ k i ((winsR P D n i).map (twOf D.length (12 + 16 * n)))).ideal D).1 = (winsR P D n (i + k)).map (twOf D.length (12 + 16 * n))
  | 0, i, h => rfl
  | k + 1, i, h => by
    rw [addsP, Pr.ideal_bind, add_ideal]
    have e := new_is P D n i (winsR P D n i) (by omega) hD (winsR_ok P D n i)
    simp only
    rw [e]
    have e2 : (winsR P D n i).map (twOf D.length (12 + 16 * n)) ++ [twOf D.length (12 + 16 * n) (newWd P D n (winsR P D n i) i)] = (winsR P D n (i + 1)).map (twOf D.length (12 + 16 * n)) := by
      simp [winsR]
    rw [e2, adds_is P D n hD k (i + 1) (by omega)]
    congr 2
    omega
theorem dir_is (P : Pol) (D : List UInt8) : (dirOf P D).kind = (kindL D).1 ∧ (dirOf P D).tabs = (winsR P D (kindL D).2 (kindL D).2).map (twOf D.length (12 + 16 * (kindL D).2)) ∧
    (((kindL D).1 = 1 ∨ (kindL D).1 = 2) → (dirOf P D).recs = ⟨12, 16 * (kindL D).2⟩ ∧ (dirOf P D).here = true ∧ (kindL D).2 ≤ 16 ∧ 12 + 16 * (kindL D).2 ≤ D.length) ∧ (¬ ((kindL D).1 = 1 ∨ (kindL D).1 = 2) → (dirOf P D).recs = ⟨0, 0⟩ ∧ (kindL D).2 = 0 ∧ (dirOf P D).here = false) := by
  unfold dirOf openP kindL
  by_cases h12 : D.length < 12
  · simp only [if_pos h12]
    refine ⟨rfl, rfl, fun h => by simp at h, fun _ => by refine ⟨?_, ?_, ?_⟩ <;> first | rfl | trivial⟩
  · simp only [if_neg h12]
    rw [Pr.ideal_bind]
    have eo : ((Wn.bytes ⟨0, 4⟩).ideal D).1 = D.take 4 := by
      rw [bytesL D ⟨0, 4⟩ (by simp only; omega)]
      unfold winL
      simp
    have ec : ((Wn.two ⟨0, 12⟩ 4).ideal D).1 = num2 D 4 := by
      rw [twoL' D ⟨0, 12⟩ (by simp only; omega)]
      have := num2_cut D 0 12 4 (by omega)
      rw [Nat.zero_add] at this
      exact this
    rw [eo]
    simp only
    have hk3 := kindOf_le (D.take 4)
    generalize kindOf (D.take 4) = k at *
    by_cases hk : k = 1 ∨ k = 2
    · rw [if_pos hk, if_neg (by omega), Pr.ideal_bind, ec]
      simp only
      generalize num2 D 4 = c at *
      by_cases hc : 16 < c ∨ D.length < 12 + 16 * c
      · have h1 : 16 < c ∨ holdsB D.length 12 (16 * c) = false := by
          rcases hc with hc | hc
          · exact .inl hc
          · right
            unfold holdsB
            rw [decide_eq_false_iff_not]
            omega
        rw [if_pos h1, if_pos (.inr hc)]
        exact ⟨rfl, rfl, fun h => by simp at h, fun _ => ⟨rfl, rfl, rfl⟩⟩
      · have h1 : ¬ (16 < c ∨ holdsB D.length 12 (16 * c) = false) := by
          rintro (h | h)
          · omega
          · unfold holdsB at h
            rw [decide_eq_false_iff_not] at h
            omega
        rw [if_neg h1, if_neg (by omega), Pr.ideal_bind]
        have ha := adds_is P D c (by omega) c 0 (by omega)
        simp only [winsR, List.map_nil, Nat.zero_add] at ha
        rw [ha]
        exact ⟨rfl, rfl, fun _ => ⟨rfl, rfl, by simp only; omega, by simp only; omega⟩, fun h => absurd hk h⟩
    · rw [if_neg hk]
      by_cases h3 : k = 3
      · rw [if_pos h3]
        exact ⟨h3, rfl, fun h => by simp at h, fun _ => ⟨rfl, rfl, rfl⟩⟩
      · rw [if_neg h3, if_pos (by omega)]
        exact ⟨by simp only [Pr.ideal]; omega, rfl, fun h => by simp at h, fun _ => ⟨rfl, rfl, rfl⟩⟩

/-- the table of a tag -/
def tableR (D : List UInt8) (tag : List UInt8) : List Wd → List UInt8 × Nat × Nat
  | [] => ([], 0, 8)
  | x :: l => if x.tag = tag then (if x.st ≠ 0 then ([], 0, x.st) else ((D.drop x.fr).take (x.to - x.fr), x.fr, 0)) else tableR D tag l
theorem tableR_is (D : List UInt8) (N e : Nat) (tag : List UInt8) : ∀ (l : List Wd), (∀ x ∈ l, WdOk N e x) →
    tableR D tag l = (if (tableOf tag (l.map (twOf N e))).2 ≠ 0 then ([], 0, (tableOf tag (l.map (twOf N e))).2) else (winL D (tableOf tag (l.map (twOf N e))).1, (tableOf tag (l.map (twOf N e))).1.b, 0))
  | [], h => rfl
  | x :: l, h => by
    have hx := h x List.mem_cons_self
    have ih := tableR_is D N e tag l (fun y hy => h y (List.mem_cons_of_mem _ hy))
    rw [List.map_cons, tableR, tableOf]
    by_cases ht : x.tag = tag
    · have ht' : (twOf N e x).tag = tag := ht
      rw [if_pos ht, if_pos ht']
      by_cases h0 : x.st ≠ 0
      · rw [if_pos h0, if_pos (show (twOf N e x).st ≠ 0 from h0)]
        rfl
      · have h0' : ¬ (twOf N e x).st ≠ 0 := h0
        rw [if_neg h0, if_neg h0']
        have := hx.here (by omega)
        have hv : (twOf N e x).v = ⟨x.fr, x.to - x.fr⟩ := by
          unfold twOf
          exact if_neg (by omega)
        rw [hv]
        rfl
    · have ht' : ¬ (twOf N e x).tag = tag := ht
      rw [if_neg ht, if_neg ht']
      exact ih
/-- what the document's answer tells, whole -/
def tbl (P : Pol) (D : List UInt8) (tag : List UInt8) : List UInt8 × Nat × Nat := tableR D tag (winsR P D (kindL D).2 (kindL D).2)
theorem tbl_is (P : Pol) (D : List UInt8) (tag : List UInt8) : tbl P D tag = (if (tableOf tag (dirOf P D).tabs).2 ≠ 0 then ([], 0, (tableOf tag (dirOf P D).tabs).2) else (winL D (tableOf tag (dirOf P D).tabs).1, (tableOf tag (dirOf P D).tabs).1.b, 0)) := by
  unfold tbl
  rw [tableR_is D D.length (12 + 16 * (kindL D).2) tag _ (winsR_ok P D _ _), ← (dir_is P D).2.1]
def tabW (x : Wd) : Tab := ⟨⟨x.tag.toArray⟩, x.st, x.size⟩
/-- the report that the document asks for -/
def docR (P : Pol) (D : List UInt8) : Rep :=
  let h := if (tbl P D tagHead).2.2 = 0 then headL (tbl P D tagHead).1 else ((tbl P D tagHead).2.2, 0, 0)
  let r := if (tbl P D tagOs2).2.2 = 0 then rightsL (tbl P D tagOs2).1 else ((tbl P D tagOs2).2.2, 0, 0)
  let n := if (tbl P D tagName).2.2 = 0 then countL (tbl P D tagName).1 6 12 else (tbl P D tagName).2.2
  let c := if (tbl P D tagCmap).2.2 = 0 then coverL (tbl P D tagCmap).1 else ((tbl P D tagCmap).2.2, 0, 0)
  ⟨(kindL D).1, (winsR P D (kindL D).2 (kindL D).2).map tabW, h.1, h.2.1, h.2.2, r.1, r.2.1, r.2.2, n, if n = 0 then namesL P (tbl P D tagName).1 else [], c.1, c.2.1, c.2.2⟩
end Go.Proofs.YteibjmlimcpaoaaGreatDoor.V

set_option linter.unusedVariables false
set_option linter.unusedSimpArgs false
namespace Go.Proofs.YteibjmlimcpaoaaGreatDoor

theorem rangesL_le : ∀ (l : List (Nat × Nat)) (c : Nat) (e : Int) (n : Nat) (e' : Int), rangesL l c e = some (n, e') → (c : Int) ≤ e + 1 → (n : Int) ≤ e' + 1 ∧ (e' = e ∨ c < n) ∧ c ≤ n
  | [], c, e, n, e', h, hc => by
    simp only [rangesL, Option.some.injEq, Prod.mk.injEq] at h
    obtain ⟨rfl, rfl⟩ := h
    exact ⟨hc, .inl rfl, Nat.le_refl _⟩
  | x :: r, c, e, n, e', h, hc => by
    rw [rangesL] at h
    split at h
    · cases h
    · rename_i hx
      have := rangesL_le r _ _ n e' h (by omega)
      omega
theorem countL_le (l : List UInt8) (f s : Nat) : countL l f s ≤ 8 := by
  rcases countL_mem l f s with h | h
  · omega
  · simp at h
    omega
theorem four_rng (l : List UInt8) : (fourL4 l).2 ≤ 8 ∧ 0 ≤ (fourL4 l).1 ∧ (fourL4 l).1 ≤ 1114112 := by
  unfold fourL4
  split
  · simp
  split
  · simp
  split
  · simp
  cases hr : rangesL (spans4 l) 0 (-1) with
  | none => simp
  | some x =>
    obtain ⟨n, e⟩ := x
    have := rangesL_le _ _ _ _ _ hr (by omega)
    simp only
    split
    · simp
    · refine ⟨by simp, ?_, ?_⟩ <;> simp only <;> omega
theorem twelve_rng (l : List UInt8) : (twelveL l).2 ≤ 8 ∧ 0 ≤ (twelveL l).1 ∧ (twelveL l).1 ≤ 1114112 := by
  unfold twelveL
  split
  · simp
  cases hr : rangesL (spans12 l) 0 (-1) with
  | none => simp
  | some x =>
    obtain ⟨n, e⟩ := x
    have := rangesL_le _ _ _ _ _ hr (by omega)
    simp only
    split
    · simp
    · refine ⟨by simp, ?_, ?_⟩ <;> simp only <;> omega
theorem cover_rng (l : List UInt8) : (coverL l).1 ≤ 8 ∧ (coverL l).2.1 ≤ 65535 ∧ 0 ≤ (coverL l).2.2 ∧ (coverL l).2.2 ≤ 1114112 := by
  have h0 := countL_le l 4 8
  unfold coverL
  split
  · exact ⟨h0, by simp, by simp, by simp⟩
  simp only
  split
  · simp
  split
  · simp
  have h2 := num2_lt (l.drop (partsL l (num2 l 2) 0 3 0).2) 0
  generalize l.drop (partsL l (num2 l 2) 0 3 0).2 = q at *
  have h3 := four_rng q
  have h4 := twelve_rng q
  have h5 : ∀ c : Int × Nat, (c.2 ≤ 8 ∧ 0 ≤ c.1 ∧ c.1 ≤ 1114112) → (if c.2 ≠ 0 then ((c.2, 0, 0) : Nat × Nat × Int) else (0, num2 q 0, c.1)).1 ≤ 8 ∧ (if c.2 ≠ 0 then ((c.2, 0, 0) : Nat × Nat × Int) else (0, num2 q 0, c.1)).2.1 ≤ 65535 ∧ 0 ≤ (if c.2 ≠ 0 then ((c.2, 0, 0) : Nat × Nat × Int) else (0, num2 q 0, c.1)).2.2 ∧ (if c.2 ≠ 0 then ((c.2, 0, 0) : Nat × Nat × Int) else (0, num2 q 0, c.1)).2.2 ≤ 1114112 := by
    intro c hc
    split
    · exact ⟨hc.1, by simp, by simp, by simp⟩
    · exact ⟨by simp, by simp only; omega, hc.2.1, hc.2.2⟩
  apply h5
  split
  · exact h3
  split
  · exact h4
  · simp
theorem head_rng (l : List UInt8) : (headL l).1 ≤ 8 ∧ (headL l).2.1 ≤ 65535 ∧ (headL l).2.2 ≤ 65535 := by
  have h1 := num2_lt l 16
  have h2 := num2_lt l 18
  unfold headL
  repeat' split
  all_goals simp only
  all_goals omega
theorem rights_rng (l : List UInt8) : (rightsL l).1 ≤ 8 ∧ (rightsL l).2.1 ≤ 65535 ∧ (rightsL l).2.2 ≤ 65535 := by
  have h1 := num2_lt l 0
  have h2 := num2_lt l 8
  unfold rightsL
  repeat' split
  all_goals simp only
  all_goals omega

theorem table_in (P : Pol) (D : List UInt8) (tag : List UInt8) : (tableOf tag (dirOf P D).tabs).1.b + (tableOf tag (dirOf P D).tabs).1.s ≤ D.length := by
  rcases tableOf_mem tag (dirOf P D).tabs with ⟨t, ht, _, he⟩ | he
  · rw [he]
    have := ((dir_ok P D).tabs.all t ht).lies
    simp only
    omega
  · rw [he]
    simp

/-- a name as it is told -/
structure NmB (P : Pol) (x : Nm) : Prop where
  pl : 0 ≤ x.pl ∧ x.pl ≤ 65535
  en : 0 ≤ x.en ∧ x.en ≤ 65535
  la : 0 ≤ x.la ∧ x.la ≤ 65535
  id : 0 ≤ x.id ∧ x.id ≤ 65535
  st : 0 ≤ x.st ∧ x.st ≤ 8
  held : x.st = 4 ↔ x.id ∈ P.ids
  text : (x.ms = 0 ∧ x.tx = ⟨#[]⟩) ∨ (x.st = 0 ∧ ∃ (p e : Int) (b : List UInt8), x.tx = ⟨(textOf p e b P.text).1.toArray⟩ ∧ x.ms = (textOf p e b P.text).2.1 ∧ (textOf p e b P.text).2.2 = 0)

theorem textOf_st (p e : Int) (b : List UInt8) (n : Int) : (textOf p e b n).2.2 = 0 ∨ ((textOf p e b n).1 = [] ∧ (textOf p e b n).2.1 = 0 ∧ ((textOf p e b n).2.2 = 6 ∨ (textOf p e b n).2.2 = 7)) := by
  unfold textOf
  repeat' split
  all_goals simp

theorem told_rng (P : Pol) (D : List UInt8) (t : Wn) (x : Nw) (h : NOk P t x) : NmB P ((toldP P.text x).ideal D).1 := by
  have hh : x.st = 4 ↔ (x.id : Int) ∈ P.ids := by rw [h.held]; simp
  have h1 := h.pl
  have h2 := h.en
  have h3 := h.la
  have h4 := h.id
  have h5 := h.st
  unfold toldP
  split
  · rename_i h0
    rw [Pr.ideal_bind]
    simp only [Pr.ideal]
    generalize (x.v.bytes.ideal D).1 = b
    have ht := textOf_st x.pl x.en b P.text
    have hn : ¬ (x.id : Int) ∈ P.ids := by rw [← hh]; omega
    refine ⟨⟨by simp, by simp only; omega⟩, ⟨by simp, by simp only; omega⟩, ⟨by simp, by simp only; omega⟩, ⟨by simp, by simp only; omega⟩, ?_, ?_, ?_⟩
    · simp only
      rcases ht with h | ⟨_, _, h | h⟩ <;> rw [h] <;> simp
    · simp only
      constructor
      · intro h4
        rcases ht with h | ⟨_, _, h | h⟩ <;> rw [h] at h4 <;> simp at h4
      · intro h4
        exact absurd h4 hn
    · simp only
      rcases ht with h | ⟨ha, hb, h⟩
      · exact .inr ⟨h, _, _, _, rfl, rfl, h⟩
      · exact .inl ⟨hb, by rw [ha]⟩
  · rename_i h0
    refine ⟨⟨by simp [Pr.ideal], by simp only [Pr.ideal]; omega⟩, ⟨by simp [Pr.ideal], by simp only [Pr.ideal]; omega⟩, ⟨by simp [Pr.ideal], by simp only [Pr.ideal]; omega⟩, ⟨by simp [Pr.ideal], by simp only [Pr.ideal]; omega⟩, ⟨by simp [Pr.ideal], by simp only [Pr.ideal]; omega⟩, ?_, .inl ⟨rfl, rfl⟩⟩
    simp only [Pr.ideal]
    rw [← hh]
    omega

structure TabB (P : Pol) (D : List UInt8) (t : Tab) : Prop where
  tag : t.tag.size = 4
  st : 0 ≤ t.st ∧ t.st ≤ 4
  sz : 0 ≤ t.sz ∧ t.sz ≤ D.length
  held : t.st = 4 → t.tag.data.toList ∈ P.tags
  free : t.st = 0 → ¬ t.tag.data.toList ∈ P.tags

structure RepOk (P : Pol) (D : List UInt8) (r : Rep) : Prop where
  kind : 0 ≤ r.kind ∧ r.kind ≤ 3
  nt : r.lt.length ≤ 16
  tabs : ∀ t ∈ r.lt, TabB P D t
  hs : 0 ≤ r.hs ∧ r.hs ≤ 8
  hf : 0 ≤ r.hf ∧ r.hf ≤ 65535
  hu : 0 ≤ r.hu ∧ r.hu ≤ 65535
  rs : 0 ≤ r.rs ∧ r.rs ≤ 8
  rv : 0 ≤ r.rv ∧ r.rv ≤ 65535
  rb : 0 ≤ r.rb ∧ r.rb ≤ 65535
  nm : 0 ≤ r.nm ∧ r.nm ≤ 8
  nn : r.ln.length ≤ 20
  names : ∀ x ∈ r.ln, NmB P x
  cs : 0 ≤ r.cs ∧ r.cs ≤ 8
  cf : 0 ≤ r.cf ∧ r.cf ≤ 65535
  cc : 0 ≤ r.cc ∧ r.cc ≤ 1114112

theorem tabs_len (P : Pol) (D : List UInt8) : (dirOf P D).tabs.length ≤ 16 := by
  have h := dir_ok P D
  cases hh : (dirOf P D).here with
  | false => rw [(h.no hh).1]; simp
  | true => exact (h.yes hh).2.2.1
theorem ns_each (P : Pol) (D : List UInt8) : ∀ x ∈ (nsOf P D).list, NOk P (tableOf tagName (dirOf P D).tabs).1 x := by
  have h := ns_ok P D
  intro x hx
  cases hh : (nsOf P D).here with
  | false => rw [(h.no hh).1] at hx; simp at hx
  | true => exact (h.yes hh).2.2.2.2.2.2 x hx

theorem rep_ok (P : Pol) (D : List UInt8) : RepOk P D (repD P D) := by
  have hd := dir_ok P D
  have hst : ∀ tag, (tableOf tag (dirOf P D).tabs).2 ≤ 8 := fun tag => tableOf_st hd.tabs tag
  have h1 : ∀ (st : Nat) (x : Nat × Nat × Nat), st ≤ 8 → x.1 ≤ 8 ∧ x.2.1 ≤ 65535 ∧ x.2.2 ≤ 65535 → (if st ≠ 0 then (st, 0, 0) else x).1 ≤ 8 ∧ (if st ≠ 0 then (st, 0, 0) else x).2.1 ≤ 65535 ∧ (if st ≠ 0 then (st, 0, 0) else x).2.2 ≤ 65535 := by
    intro st x hs hx
    split
    · exact ⟨hs, by simp, by simp⟩
    · exact hx
  have h2 : ∀ (st : Nat) (x : Nat × Nat × Int), st ≤ 8 → x.1 ≤ 8 ∧ x.2.1 ≤ 65535 ∧ 0 ≤ x.2.2 ∧ x.2.2 ≤ 1114112 → (if st ≠ 0 then (st, 0, 0) else x).1 ≤ 8 ∧ (if st ≠ 0 then (st, 0, 0) else x).2.1 ≤ 65535 ∧ 0 ≤ (if st ≠ 0 then (st, 0, 0) else x).2.2 ∧ (if st ≠ 0 then (st, 0, 0) else x).2.2 ≤ 1114112 := by
    intro st x hs hx
    split
    · exact ⟨hs, by simp, by simp, by simp⟩
    · exact hx
  have a1 := h1 _ _ (hst tagHead) (head_rng (winL D (tableOf tagHead (dirOf P D).tabs).1))
  have a2 := h1 _ _ (hst tagOs2) (rights_rng (winL D (tableOf tagOs2 (dirOf P D).tabs).1))
  have a3 := h2 _ _ (hst tagCmap) (cover_rng (winL D (tableOf tagCmap (dirOf P D).tabs).1))
  rw [← head_eq D _ _ (table_in P D tagHead)] at a1
  rw [← rights_eq D _ _ (table_in P D tagOs2)] at a2
  rw [← cover_eq D _ _ (table_in P D tagCmap)] at a3
  rw [rep_eq]
  simp only
  generalize ((headP (tableOf tagHead (dirOf P D).tabs).1 (tableOf tagHead (dirOf P D).tabs).2).ideal D).1 = x at *
  generalize ((rightsP (tableOf tagOs2 (dirOf P D).tabs).1 (tableOf tagOs2 (dirOf P D).tabs).2).ideal D).1 = y at *
  generalize ((coverP (tableOf tagCmap (dirOf P D).tabs).1 (tableOf tagCmap (dirOf P D).tabs).2).ideal D).1 = z at *
  have k1 := hd.kind
  have k2 := (ns_ok P D).st
  refine ⟨⟨by simp, by simp only; omega⟩, ?_, ?_, ⟨by simp, by simp only; omega⟩, ⟨by simp, by simp only; omega⟩, ⟨by simp, by simp only; omega⟩, ⟨by simp, by simp only; omega⟩, ⟨by simp, by simp only; omega⟩, ⟨by simp, by simp only; omega⟩, ⟨by simp, by simp only; omega⟩, ?_, ?_, ⟨by simp, by simp only; omega⟩, ⟨by simp, by simp only; omega⟩, ⟨by simp only; omega, by simp only; omega⟩⟩
  · simpa using tabs_len P D
  · intro t ht
    simp only [List.mem_map] at ht
    obtain ⟨u, hu, rfl⟩ := ht
    have h := hd.tabs.all u hu
    have i1 := h.st
    have i2 := h.size
    have i3 := h.lies
    refine ⟨?_, ⟨by simp [tabOf], by simp only [tabOf]; omega⟩, ⟨by simp [tabOf], by simp only [tabOf]; omega⟩, ?_, ?_⟩
    · show u.tag.toArray.size = 4
      simpa using h.tag
    · intro h4
      have := h.held (by simp only [tabOf] at h4; omega)
      simpa [tabOf] using this
    · intro h4
      have := h.free (by simp only [tabOf] at h4; omega)
      simpa [tabOf] using this
  · simpa using names_len P D
  · intro t ht
    simp only [List.mem_map] at ht
    obtain ⟨u, hu, rfl⟩ := ht
    exact told_rng P D _ u (ns_each P D u hu)

theorem insp_len (P : Pol) (D : List UInt8) (b : Int) : (inspOf P D b).1.lt.length ≤ 16 ∧ (inspOf P D b).1.ln.length ≤ 20 := by
  have h := rep_ok P D
  by_cases h1 : P.ok = true
  · by_cases h2 : D.length ≤ 2000
    · rw [insp_eq P D b h1 h2]
      split
      · exact ⟨h.nt, h.nn⟩
      · simp [Rep.none]
    · unfold inspOf
      rw [if_neg (by simp [h1]), if_pos (by omega)]
      simp [Rep.none]
  · unfold inspOf
    rw [if_pos (by simpa using h1)]
    simp [Rep.none]

/-- how many bytes are read at least for what is told -/
def leastR (r : Rep) : Nat := 8 * r.ln.length + (if r.kind = 1 ∨ r.kind = 2 then 6 else 0) + 8 * (r.lt.filter fun t => decide (t.st = 0 ∨ t.st = 4)).length
theorem least_le (P : Pol) (D : List UInt8) : leastR (repD P D) ≤ leastD P D := by
  have h := rep_eq P D
  rw [h]
  unfold leastR leastD
  simp only [List.length_map]
  have h1 := List.length_filter_le (fun t : Tab => decide (t.st = 0 ∨ t.st = 4)) ((dirOf P D).tabs.map tabOf)
  rw [List.length_map] at h1
  have h2 : (if ((dirOf P D).kind : Int) = 1 ∨ ((dirOf P D).kind : Int) = 2 then 6 else 0) = (if (dirOf P D).kind = 1 ∨ (dirOf P D).kind = 2 then 6 else 0) := by
    by_cases hk : (dirOf P D).kind = 1 ∨ (dirOf P D).kind = 2
    · rw [if_pos hk, if_pos (by omega)]
    · rw [if_neg hk, if_neg (by omega)]
  rw [h2]
  omega
end Go.Proofs.YteibjmlimcpaoaaGreatDoor

set_option linter.unusedVariables false
set_option linter.unusedSimpArgs false
namespace Go.Proofs.YteibjmlimcpaoaaGreatDoor.V

theorem tab_tw (N e : Nat) (x : Wd) : tabOf (twOf N e x) = tabW x := rfl
theorem pick3 (P : Pol) (D tag : List UInt8) (f : List UInt8 → Nat × Nat × Nat) : (if (tbl P D tag).2.2 = 0 then f (tbl P D tag).1 else ((tbl P D tag).2.2, 0, 0)) = (if (tableOf tag (dirOf P D).tabs).2 ≠ 0 then ((tableOf tag (dirOf P D).tabs).2, 0, 0) else f (winL D (tableOf tag (dirOf P D).tabs).1)) := by
  rw [tbl_is]
  by_cases h : (tableOf tag (dirOf P D).tabs).2 ≠ 0
  · rw [if_pos h, if_pos h]
    simp only
    rw [if_neg h]
  · rw [if_neg h, if_neg h]
    simp only [if_true]
theorem doc_is (P : Pol) (D : List UInt8) : docR P D = repD P D := by
  have hd := dir_is P D
  have e1 := head_eq D (tableOf tagHead (dirOf P D).tabs).1 (tableOf tagHead (dirOf P D).tabs).2 (table_in P D tagHead)
  have e2 := rights_eq D (tableOf tagOs2 (dirOf P D).tabs).1 (tableOf tagOs2 (dirOf P D).tabs).2 (table_in P D tagOs2)
  have e4 := cover_eq D (tableOf tagCmap (dirOf P D).tabs).1 (tableOf tagCmap (dirOf P D).tabs).2 (table_in P D tagCmap)
  have e3 : nsOf P D = _ := naming_eq D P (dirOf P D).tabs (table_in P D tagName)
  have hnames := names_eq D P (tableOf tagName (dirOf P D).tabs).1 (table_in P D tagName)
  have p1 := pick3 P D tagHead headL
  have p2 := pick3 P D tagOs2 rightsL
  have p3 := tbl_is P D tagName
  have p4 := tbl_is P D tagCmap
  rw [rep_eq]
  simp only
  rw [e1, e2, e4, e3]
  unfold docR
  simp only
  rw [p1, p2, p3, p4]
  have hk : ((kindL D).1 : Int) = ((dirOf P D).kind : Int) := by rw [hd.1]
  have ht : (winsR P D (kindL D).2 (kindL D).2).map tabW = (dirOf P D).tabs.map tabOf := by
    rw [hd.2.1, List.map_map]
    apply List.map_congr_left
    intro x _
    exact (tab_tw _ _ x).symm
  rw [hk, ht]
  generalize (tableOf tagName (dirOf P D).tabs).1 = v at *
  generalize (tableOf tagName (dirOf P D).tabs).2 = st at *
  generalize (tableOf tagCmap (dirOf P D).tabs).1 = v4 at *
  generalize (tableOf tagCmap (dirOf P D).tabs).2 = st4 at *
  have hcov : ∀ q : Nat × Nat × Int, ((if (if st4 ≠ 0 then (([] : List UInt8), 0, st4) else (winL D v4, v4.b, 0)).2.2 = 0 then coverL (if st4 ≠ 0 then (([] : List UInt8), 0, st4) else (winL D v4, v4.b, 0)).1 else ((if st4 ≠ 0 then (([] : List UInt8), 0, st4) else (winL D v4, v4.b, 0)).2.2, 0, 0)) = if st4 ≠ 0 then (st4, 0, 0) else coverL (winL D v4)) := by
    intro q
    by_cases h : st4 ≠ 0
    · simp only [if_pos h]
      rw [if_neg h]
    · simp only [if_neg h, if_true]
  rw [hcov (0, 0, 0)]
  by_cases hst : st ≠ 0
  · simp only [if_pos hst]
    rw [if_neg hst]
    simp only [if_neg hst, List.map_nil]
  · simp only [if_neg hst, if_true]
    by_cases hc : countL (winL D v) 6 12 = 0
    · simp only [hc, ne_eq, not_true, if_false, if_true]
      rw [hnames hc]
    · have hc' : countL (winL D v) 6 12 ≠ 0 := hc
      simp only [if_pos hc', if_neg hc, List.map_nil]
end Go.Proofs.YteibjmlimcpaoaaGreatDoor.V

namespace Go.Proofs.YteibjmlimcpaoaaGreatDoor
def w2 (n : Nat) : List UInt8 := [UInt8.ofNat (n / 256), UInt8.ofNat n]
def w4 (n : Nat) : List UInt8 := w2 (n / 65536) ++ w2 n
end Go.Proofs.YteibjmlimcpaoaaGreatDoor
