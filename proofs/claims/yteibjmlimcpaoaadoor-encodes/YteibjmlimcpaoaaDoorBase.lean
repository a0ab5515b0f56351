/-
  Plain functions on numbers and lists of bytes: which characters are harmful, how a number is written in hexadecimal, how a character is shown, how bytes are read as characters, and the text with its marks. No Go and no program in it.
-/
import Derived.KernelRfl
set_option linter.unusedVariables false
namespace Go.Proofs.YteibjmlimcpaoaaDoor

/-- must a character not be shown as itself? -/
def harmB (c : Int) : Bool :=
  decide (c < 32 ∨ (127 ≤ c ∧ c ≤ 159) ∨ c = 8206 ∨ c = 8207 ∨ (8234 ≤ c ∧ c ≤ 8238) ∨ (8294 ≤ c ∧ c ≤ 8297))

/-- one hexadecimal digit -/
def dig (n : Nat) : UInt8 := if n < 10 then UInt8.ofNat (48 + n) else UInt8.ofNat (87 + n)

/-- the digits ahead of those that stand already -/
def hexT : Nat → Nat → List UInt8 → List UInt8
  | 0, _, s => s
  | f + 1, m, s => if m < 16 then s else hexT f (m / 16) (dig (m / 16 % 16) :: s)

/-- a number below 65536 in hexadecimal -/
def hexL (n : Nat) : List UInt8 := hexT 3 n [dig (n % 16)]

/-- a character in UTF-8 -/
def utf8L (c : Nat) : List UInt8 :=
  if c < 128 then [UInt8.ofNat c]
  else if c < 2048 then [UInt8.ofNat (192 + c / 64), UInt8.ofNat (128 + c % 64)]
  else if c < 65536 then [UInt8.ofNat (224 + c / 4096), UInt8.ofNat (128 + c / 64 % 64), UInt8.ofNat (128 + c % 64)]
  else [UInt8.ofNat (240 + c / 262144), UInt8.ofNat (128 + c / 4096 % 64), UInt8.ofNat (128 + c / 64 % 64), UInt8.ofNat (128 + c % 64)]

/-- spelt: a harmful one, and the sign 60 -/
def spelt (c : Int) : Bool := harmB c || c == 60

/-- a character as it is shown -/
def shownL (c : Int) : List UInt8 := if spelt c then 60 :: hexL c.toNat ++ [62] else utf8L c.toNat

/-- the first number of two bytes -/
def pairN (l : List UInt8) : Nat := 256 * (l.getD 0 0).toNat + (l.getD 1 0).toNat

/-- the first character of two bytes or four: what it is, how many bytes, is it none -/
def firstW (l : List UInt8) : Nat × Nat × Bool :=
  if pairN l < 55296 ∨ 57344 ≤ pairN l then (pairN l, 2, false)
  else if pairN l < 56320 ∧ 4 ≤ l.length ∧ 56320 ≤ pairN (l.drop 2) ∧ pairN (l.drop 2) < 57344 then (65536 + 1024 * (pairN l - 55296) + (pairN (l.drop 2) - 56320), 4, false)
  else (65533, 2, true)

/-- the first character of one byte -/
def firstN (l : List UInt8) : Nat × Nat × Bool :=
  if (l.getD 0 0).toNat < 128 then ((l.getD 0 0).toNat, 1, false) else (65533, 1, true)

/-- the characters of some bytes -/
def letters (first : List UInt8 → Nat × Nat × Bool) : Nat → List UInt8 → List (Nat × Bool)
  | 0, _ => []
  | _ + 1, [] => []
  | f + 1, a :: l => ((first (a :: l)).1, (first (a :: l)).2.2) :: letters first f ((a :: l).drop (first (a :: l)).2.1)

/-- the text, and whether something was broken, was hidden, was cut -/
def tell (limit : Int) : List (Nat × Bool) → List UInt8 → Bool → Bool → List UInt8 × Bool × Bool × Bool
  | [], acc, b, h => (acc, b, h, false)
  | x :: r, acc, b, h => if limit < (acc.length : Int) + (shownL x.1).length then (acc, b, h, true) else tell limit r (acc ++ shownL x.1) (b || x.2) (h || harmB x.1)

/-- marks as a number -/
def markN (b h c : Bool) : Int := (if b then 1 else 0) + (if h then 2 else 0) + (if c then 4 else 0)

def twoB (p e : Int) : Bool := decide (p = 0 ∨ (p = 3 ∧ (e = 1 ∨ e = 10)))
def oneB (p e : Int) : Bool := decide (p = 1 ∧ e = 0)

/-- Text: the text, its marks, its status -/
def textOf (p e : Int) (b : List UInt8) (limit : Int) : List UInt8 × Int × Int :=
  if twoB p e then
    if b.length % 2 = 1 then ([], 0, 6)
    else
      let t := tell limit (letters firstW b.length b) [] false false
      (t.1, markN t.2.1 t.2.2.1 t.2.2.2, 0)
  else if oneB p e then
    let t := tell limit (letters firstN b.length b) [] false false
    (t.1, markN t.2.1 t.2.2.1 t.2.2.2, 0)
  else ([], 0, 7)

/-- a table, a name and a report, as they are told -/
structure Tab where
  tag : ByteArray
  st : Int
  sz : Int
structure Nm where
  pl : Int
  en : Int
  la : Int
  id : Int
  st : Int
  ms : Int
  tx : ByteArray
structure Rep where
  kind : Int
  lt : List Tab
  hs : Int
  hf : Int
  hu : Int
  rs : Int
  rv : Int
  rb : Int
  nm : Int
  ln : List Nm
  cs : Int
  cf : Int
  cc : Int

end Go.Proofs.YteibjmlimcpaoaaDoor
