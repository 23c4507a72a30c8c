/-
  The plain mathematics of disk: files by name, a prefix safe, a fuse; what each call does to them. Conditions: none.
-/
namespace Go.Proofs.Ytkiombbdddbkfaa.Dk

abbrev Nm := List UInt8
structure Fl where
  data : List UInt8
  safe : Nat
structure Ds where
  m : List (Nm × Fl)
  off : Bool
  deeds : Nat
  fuse : Nat
  keep : Int

def nameByte (c : UInt8) : Bool := (97 ≤ c && c ≤ 122) || (48 ≤ c && c ≤ 57) || c == 46 || c == 45
def isName (s : Nm) : Bool := 1 ≤ s.length && s.length ≤ 16 && s.all nameByte

def get : List (Nm × Fl) → Nm → Option Fl
  | [], _ => none
  | (n, f) :: r, k => if n = k then some f else get r k
def put (k : Nm) (f : Fl) : List (Nm × Fl) → List (Nm × Fl)
  | [] => [(k, f)]
  | (n, g) :: r => if n = k then (k, f) :: r else if n < k then (n, g) :: put k f r else (k, f) :: (n, g) :: r

def keptOf (keep : Int) (f : Fl) : Nat := f.safe + min keep.toNat (f.data.length - f.safe)
def lose (keep : Int) (f : Fl) : Fl := ⟨f.data.take (keptOf keep f), keptOf keep f⟩
def loseAll (keep : Int) (m : List (Nm × Fl)) : List (Nm × Fl) := m.map fun p => (p.1, lose keep p.2)

def offD (s : Ds) (keep : Int) : Ds := if s.off then s else { s with off := true, m := loseAll keep s.m }
def onD (s : Ds) : Ds := { s with off := false }
def armD (s : Ds) (n keep : Int) : Ds := { s with fuse := n.toNat, keep := keep }
/-- An operation is counted: has the power failed during it? -/
def strike (s : Ds) : Bool × Ds :=
  if s.fuse = 0 then (false, { s with deeds := s.deeds + 1 })
  else if s.fuse = 1 then (true, offD { s with deeds := s.deeds + 1, fuse := 0 } s.keep)
  else (false, { s with deeds := s.deeds + 1, fuse := s.fuse - 1 })

def fileOr (s : Ds) (name : Nm) : Fl := (get s.m name).getD ⟨[], 0⟩
def withFile (s : Ds) (name : Nm) (f : Fl) : Ds := { s with m := put name f s.m }
def ends (r : Bool × Ds) (ok : Ds → Ds) : Int × Ds := if r.1 then (20, r.2) else (0, ok r.2)
def appendD (s : Ds) (name : Nm) (b : List UInt8) : Int × Ds :=
  if s.off then (20, s)
  else if isName name = false then (51, s)
  else if 16777216 < (fileOr s name).data.length + b.length then (2, s)
  else ends (strike (withFile s name ⟨(fileOr s name).data ++ b, (fileOr s name).safe⟩)) id
def findD (s : Ds) (name : Nm) : Int := if s.off then 20 else if (get s.m name).isNone then 21 else 0
def syncD (s : Ds) (name : Nm) : Int × Ds :=
  if findD s name ≠ 0 then (findD s name, s)
  else ends (strike s) fun t => withFile t name ⟨(fileOr s name).data, (fileOr s name).data.length⟩
def cutD (s : Ds) (name : Nm) (n : Int) : Int × Ds :=
  if findD s name ≠ 0 then (findD s name, s)
  else if n < 0 ∨ (fileOr s name).data.length < n then (1, s)
  else ends (strike s) fun t => withFile t name ⟨(fileOr s name).data.take n.toNat, min (fileOr s name).safe n.toNat⟩
def readD (s : Ds) (name : Nm) : List UInt8 := if findD s name ≠ 0 then [] else (fileOr s name).data
def namesD (s : Ds) : List Nm := if s.off then [] else s.m.map (·.1)
def newD : Ds := ⟨[], false, 0, 0, 0⟩

/-- Strictly in the order of the names. -/
def Sorted (m : List (Nm × Fl)) : Prop := (m.map (·.1)).Pairwise (· < ·)
/-- What holds of every disk that calls have made: names in order, names, bounds. -/
structure Good (s : Ds) : Prop where
  sorted : Sorted s.m
  names : ∀ p ∈ s.m, isName p.1 = true
  safe : ∀ p ∈ s.m, p.2.safe ≤ p.2.data.length
  long : ∀ p ∈ s.m, p.2.data.length ≤ 16777216
  fuse : s.fuse ≤ 9223372036854775807
  keepLo : -9223372036854775808 ≤ s.keep
  keepHi : s.keep ≤ 9223372036854775807

end Go.Proofs.Ytkiombbdddbkfaa.Dk
