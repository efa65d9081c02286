/- JSON's texts and values, as plain functions: what the program reads and writes. -/
import Derived.Test.YtbkkcojfgdjbhaaDoorProg
import Derived.Lib.ParseIntB
import Derived.Lib.ItoaNum
import Derived.Lib.RuneBytes
import Derived.Lib.ValidU
import Derived.Lib.SlTrimSet
namespace Go.Proofs.YtbkkcojfgdjbhaaDoor

abbrev Bs := List UInt8
/-- A value, field by field. -/
inductive J where
  | mk (kind num : Int) (str : Bs) (keys : List Bs) (kids : List J)
def J.zero : J := .mk 0 0 [] [] []
/-- What is read, and what is left; or why it is none's. -/
inductive Rs (α : Type) where
  | ok (a : α) (l : Bs)
  | err (e : Int)

def skipB (l : Bs) : Bs := Lib.trimLeftS l [9, 10, 13, 32]
def hexV (c : UInt8) : Option Nat :=
  if 48 ≤ c.toNat ∧ c.toNat ≤ 57 then some (c.toNat - 48)
  else if 97 ≤ c.toNat ∧ c.toNat ≤ 102 then some (c.toNat - 87)
  else if 65 ≤ c.toNat ∧ c.toNat ≤ 70 then some (c.toNat - 55) else none
/-- The number of four digits. -/
def fourN : Bs → Option (Nat × Bs)
  | a :: b :: c :: d :: r => do
    let x ← hexV a
    let y ← hexV b
    let z ← hexV c
    let u ← hexV d
    pure (x * 4096 + y * 256 + z * 16 + u, r)
  | _ => none
/-- The second half of a pair, behind its backslash. -/
def pairN (h : Nat) : Bs → Option (Int × Bs)
  | [] => none
  | b :: r2 => if b = 117 then (match fourN r2 with
      | none => none
      | some (o, r3) => if o < 56320 ∨ 57343 < o then none else some (65536 + ((h : Int) - 55296) * 1024 + (o : Int) - 56320, r3)) else none
/-- What follows \u. -/
def cpN (l : Bs) : Option (Int × Bs) :=
  match fourN l with
  | none => none
  | some (h, r) =>
    if h < 55296 ∨ 57343 < h then some ((h : Int), r)
    else if 56320 ≤ h then none
    else match r with
      | [] => none
      | a :: r1 => if a = 92 then pairN h r1 else none
def escV (c : UInt8) : Option Int :=
  if c = 34 then some 34 else if c = 92 then some 92 else if c = 47 then some 47 else if c = 98 then some 8
  else if c = 102 then some 12 else if c = 110 then some 10 else if c = 114 then some 13 else if c = 116 then some 9 else none
/-- What follows a backslash. -/
def escN : Bs → Option (Int × Bs)
  | [] => none
  | c :: r => if c = 117 then cpN r else (escV c).map (fun v => (v, r))
/-- One sign of a text. -/
def signN (l : Bs) : Option (Int × Bs) :=
  match l with
  | [] => none
  | c :: r =>
    if c = 92 then escN r
    else
      let d := Lib.decodeL l
      if d.1 < 32 ∨ d.1 = 65533 ∧ d.2 ≤ 1 then none else some ((d.1 : Int), l.drop d.2)
/-- The signs of a text up to its end. -/
def txN : Nat → Bs → Bs → Rs Bs
  | 0, _, _ => .err 2
  | f + 1, acc, l =>
    match l with
    | [] => .err 2
    | c :: r =>
      if c = 34 then .ok acc r
      else match signN (c :: r) with
        | none => .err 2
        | some (v, r2) => txN f (acc ++ Lib.encodeRune v) r2
def textN : Bs → Rs Bs
  | [] => .err 2
  | c :: r =>
    if c = 34 then
      match txN (r.length + 1) [] r with
      | .err e => .err e
      | .ok s r2 => if 200 < s.length then .err 4 else .ok s r2
    else .err 2
def isLow (c : UInt8) : Bool := 97 ≤ c.toNat && c.toNat ≤ 122
def isDig (c : UInt8) : Bool := 48 ≤ c.toNat && c.toNat ≤ 57
def wordV (s : Bs) : Option Int := if s = [110, 117, 108, 108] then some 0 else if s = [102, 97, 108, 115, 101] then some 1 else if s = [116, 114, 117, 101] then some 2 else none
def wordN (l : Bs) : Rs J :=
  match wordV (l.takeWhile isLow) with
  | some k => .ok (.mk k 0 [] [] []) (l.dropWhile isLow)
  | none => .err 2
/-- A number: its first sign is there. -/
def numN (l : Bs) : Rs J :=
  let s := l.take 1 ++ (l.drop 1).takeWhile isDig
  match Lib.parseIntB 64 s with
  | .ok v => if Lib.itoa v = s then .ok (.mk 3 v [] [] []) ((l.drop 1).dropWhile isDig) else .err 2
  | _ => .err 2
/-- A key that is none of the earlier ones, and its colon. -/
def keyN (earlier : List Bs) (l : Bs) : Rs Bs :=
  match textN l with
  | .err e => .err e
  | .ok s r =>
    if earlier.contains s then .err 2
    else match skipB r with
      | c :: r2 => if c = 58 then .ok s (skipB r2) else .err 2
      | [] => .err 2
def clN (k : Int) : UInt8 := if k = 5 then 93 else 125
/-- Where the next entry begins: behind a comma, unless it is the first. -/
def nextN (first : Bool) (l : Bs) : Option Bs :=
  if first then some l else match l with
    | c :: r => if c = 44 then some (skipB r) else none
    | [] => none
/-- The entries of a list or an object, up to its end; V: what reads an entry's value (with how many values there are), f: enough rounds. -/
def kidN (V : Bs → Nat → Rs (J × Nat)) : Nat → Int → List Bs → List J → Bs → Nat → Rs (J × Nat)
  | 0, _, _, _, _, _ => .err 2
  | f + 1, k, keys, kids, l, n =>
    if l.head? = some (clN k) then .ok (.mk k 0 [] keys kids, n) l.tail
    else match nextN kids.isEmpty l with
      | none => .err 2
      | some l1 =>
        match (if k = 6 then keyN keys l1 else .ok [] l1) with
        | .err e => .err e
        | .ok s r =>
          match V r n with
          | .err e => .err e
          | .ok (j, n2) r2 => kidN V f k (if k = 6 then keys ++ [s] else keys) (kids ++ [j]) r2 n2
/-- The blanks behind a value. -/
def Rs.skip {α : Type} : Rs α → Rs α
  | .ok a l => .ok a (skipB l)
  | .err e => .err e
def Rs.count {α : Type} (n : Nat) : Rs α → Rs (α × Nat)
  | .ok a l => .ok (a, n) l
  | .err e => .err e
def textV (l : Bs) : Rs J :=
  match textN l with
  | .ok s r => .ok (.mk 4 0 s [] []) r
  | .err e => .err e
/-- A value; d: how many lists and objects more there may be within one another, n: how many values were begun. -/
def valN : Nat → Bs → Nat → Rs (J × Nat)
  | d, l, n =>
    if n = 400 then .err 4
    else match l with
      | [] => .err 2
      | c :: r =>
        (if c = 34 then (textV l).count (n + 1)
        else if c = 91 then (match d with | 0 => .err 3 | d + 1 => kidN (valN d) 401 5 [] [] (skipB r) (n + 1))
        else if c = 123 then (match d with | 0 => .err 3 | d + 1 => kidN (valN d) 401 6 [] [] (skipB r) (n + 1))
        else if c = 45 ∨ isDig c then (numN l).count (n + 1)
        else (wordN l).count (n + 1)).skip
/-- The value of a text. -/
def readN (l : Bs) : J × Int :=
  match valN 6 (skipB l) 0 with
  | .err e => (.zero, e)
  | .ok (j, _) r => if r = [] then (j, 0) else (.zero, 2)
end Go.Proofs.YtbkkcojfgdjbhaaDoor
