/-
  Texts joined into one file. Each part says in its own head what is proved there, and under which conditions.
-/
import Derived.Test.YtfoenfipefhpoaaGreatDoorJE1
import Derived.Lib.Bytealg
import Derived.Lib.TrimByte
import Derived.Test.YtfoenfipefhpoaaGreatDoorJE2
import Derived.Test.YtfoenfipefhpoaaGreatDoorJShelf2
import Derived.Test.YtfoenfipefhpoaaGreatDoorJE5
set_option linter.unusedVariables false
set_option linter.unusedSimpArgs false
/-
  Plans, plain: topics and flows, the first error of a plan, the lines of a text and what they say, a plan's text. Conditions: none; nothing of a program.
-/
namespace Go.Proofs.YtfoenfipefhpoaaGreatDoor.Pl
open Go.RowKit Go.Proofs.YtfoenfipefhpoaaGreatDoor.Ex

/-! ### Plans -/
structure Top where
  name : Bs
  parts : Int
  deriving DecidableEq
structure Stp where
  kind : Int
  text : Bs
  n : Int
  deriving DecidableEq
structure Win where
  kind : Int
  size : Int
  slide : Int
  deriving DecidableEq
structure Flw where
  name : Bs
  frm : Bs
  dest : Bs
  bound : Int
  readers : Int
  keepers : Int
  pre : List Stp
  win : Win
  agg : Int
  post : List Stp
  deriving DecidableEq
structure Pln where
  tops : List Top
  flws : List Flw
  deriving DecidableEq

/-! ### The first error -/
def nameB (c : UInt8) : Bool := (decide (97 ≤ c.toNat) && decide (c.toNat ≤ 122)) || ((decide (48 ≤ c.toNat) && decide (c.toNat ≤ 57)) || c == 45)
def isName (s : Bs) : Bool := decide (1 ≤ s.length) && (decide (s.length ≤ 16) && s.all nameB)
def partsOf : List Top → Bs → Int
  | [], _ => 0
  | t :: r, n => if t.name = n then t.parts else partsOf r n
def topErr (earlier : List Top) (t : Top) : Int :=
  if isName t.name = false then 51 else if 0 < partsOf earlier t.name then 52 else if t.parts < 1 ∨ 16 < t.parts then 1 else 0
/-- The first topic's error and its position; none: no error. -/
def topsErr (e : List Top) : List Top → Option (Nat × Int)
  | [] => none
  | t :: r => if topErr e t = 0 then topsErr (e ++ [t]) r else some (1 + e.length, topErr e t)
def named (fs : List Flw) (n : Bs) : Bool := fs.any fun f => decide (f.name = n)
def writes (fs : List Flw) (n : Bs) : Bool := fs.any fun f => decide (f.dest = n)
def areEnds (ts : List Top) (f : Flw) : Bool := decide (0 < partsOf ts f.frm) && (decide (partsOf ts f.dest = 16) && decide (f.frm ≠ f.dest))
def isBound (fs : List Flw) (f : Flw) : Bool := decide (f.bound = -1) || (decide (0 ≤ f.bound) && (decide (f.bound ≤ 1000000) && !writes fs f.frm))
def areCounts (ts : List Top) (f : Flw) : Bool := decide (1 ≤ f.readers) && (decide (f.readers ≤ min 8 (partsOf ts f.frm)) && (decide (1 ≤ f.keepers) && decide (f.keepers ≤ 8)))
def isWindow (v : Win) : Bool :=
  if v.kind = 0 then decide (v.size = 0) && decide (v.slide = 0)
  else if v.kind = 1 ∨ v.kind = 3 then decide (1 ≤ v.size) && (decide (v.size ≤ 1000000) && decide (v.slide = 0))
  else if v.kind = 2 then decide (1 ≤ v.size) && (decide (v.size ≤ 1000000) && (decide (1 ≤ v.slide) && (decide (v.slide ≤ v.size) && decide (v.size ≤ 16 * v.slide))))
  else false
def isAgg (v : Win) (a : Int) : Bool := if v.kind = 0 then decide (a = 0) else decide (1 ≤ a) && decide (a ≤ 4)
def exprErr (t : Bs) : Int :=
  match parse t with
  | .ok _ => 0
  | .err _ n => n
def stepErr (s : Stp) : Int :=
  if s.kind = 3 then (if s.n < 0 ∨ 16 < s.n ∨ s.text ≠ [] then 54 else 0)
  else if s.kind = 1 ∨ s.kind = 2 then (if s.n ≠ 0 ∨ s.text.head? = some 32 ∨ s.text.getLast? = some 32 then 54 else exprErr s.text)
  else 54
def postErr (s : Stp) : Int := if s.kind = 3 then 54 else stepErr s
def firstErr (g : Stp → Int) : List Stp → Int
  | [] => 0
  | s :: r => if g s = 0 then firstErr g r else g s
def stepsErr (f : Flw) : Int := if firstErr stepErr f.pre = 0 then firstErr postErr f.post else firstErr stepErr f.pre
def flwErr (ts : List Top) (all earlier : List Flw) (f : Flw) : Int :=
  if isName f.name = false then 51
  else if named earlier f.name = true then 52
  else if areEnds ts f = false ∨ writes earlier f.dest = true then 53
  else if isBound all f = false ∨ areCounts ts f = false ∨ isWindow f.win = false ∨ isAgg f.win f.agg = false then 1
  else if 8 < f.pre.length ∨ 8 < f.post.length then 5
  else if f.win.kind = 0 ∧ 0 < f.post.length then 54
  else stepsErr f
def flwsErr (ts : List Top) (all e : List Flw) : List Flw → Option (Nat × Int)
  | [] => none
  | f :: r => if flwErr ts all e f = 0 then flwsErr ts all (e ++ [f]) r else some (101 + e.length, flwErr ts all e f)
def check (p : Pln) : Nat × Int :=
  if 16 < p.tops.length ∨ 8 < p.flws.length then (0, 5)
  else match topsErr [] p.tops with
    | some r => r
    | none => match flwsErr p.tops p.flws [] p.flws with
      | some r => r
      | none => (0, 0)

/-! ### Lines -/
def wordsGo (cur : Bs) : Bs → List Bs
  | [] => if cur = [] then [] else [cur]
  | c :: r => if c = 32 then (if cur = [] then wordsGo [] r else cur :: wordsGo [] r) else wordsGo (cur ++ [c]) r
def wordsOf (l : Bs) : List Bs := wordsGo [] l
def linesGo (cur : Bs) : Bs → List Bs
  | [] => [cur]
  | c :: r => if c = 10 then cur :: linesGo [] r else linesGo (cur ++ [c]) r
def linesOf (l : Bs) : List Bs := linesGo [] l
def wNUMBER : Bs := [78, 85, 77, 66, 69, 82]
def wNAME : Bs := [78, 65, 77, 69]
def wTopic : Bs := [116, 111, 112, 105, 99]
def wFlow : Bs := [102, 108, 111, 119]
def wFrom : Bs := [102, 114, 111, 109]
def wTo : Bs := [116, 111]
def wBound : Bs := [98, 111, 117, 110, 100]
def wMarks : Bs := [109, 97, 114, 107, 115]
def wReaders : Bs := [114, 101, 97, 100, 101, 114, 115]
def wKeepers : Bs := [107, 101, 101, 112, 101, 114, 115]
def wFilter : Bs := [102, 105, 108, 116, 101, 114]
def wSet : Bs := [115, 101, 116]
def wKey : Bs := [107, 101, 121]
def wWindow : Bs := [119, 105, 110, 100, 111, 119]
def wTumble : Bs := [116, 117, 109, 98, 108, 101]
def wSlide : Bs := [115, 108, 105, 100, 101]
def wSession : Bs := [115, 101, 115, 115, 105, 111, 110]
def wAgg : Bs := [97, 103, 103]
def wCount : Bs := [99, 111, 117, 110, 116]
def wSum : Bs := [115, 117, 109]
def wMin : Bs := [109, 105, 110]
def wMax : Bs := [109, 97, 120]
def isNumber (w : Bs) : Bool := decide (1 ≤ w.length) && (decide (w.length ≤ 9) && w.all isDig)
def okWord (x w : Bs) : Bool := if x = wNUMBER then isNumber w else if x = wNAME then true else decide (x = w)
def fitsL : List Bs → List Bs → Bool
  | [], [] => true
  | w :: ws, x :: xs => okWord x w && fitsL ws xs
  | _, _ => false
def topicForm : List Bs := [wTopic, wNAME, wNUMBER]
def boundForm : List Bs := [wFlow, wNAME, wFrom, wNAME, wTo, wNAME, wBound, wNUMBER, wReaders, wNUMBER, wKeepers, wNUMBER]
def marksForm : List Bs := [wFlow, wNAME, wFrom, wNAME, wTo, wNAME, wMarks, wReaders, wNUMBER, wKeepers, wNUMBER]
def keyForm : List Bs := [wKey, wNUMBER]
def tumbleForm : List Bs := [wWindow, wTumble, wNUMBER]
def slideForm : List Bs := [wWindow, wSlide, wNUMBER, wNUMBER]
def sessionForm : List Bs := [wWindow, wSession, wNUMBER]
def aggForm : List Bs := [wAgg, wNAME]
def aggOf (w : Bs) : Int := if w = wCount then 1 else if w = wSum then 2 else if w = wMin then 3 else if w = wMax then 4 else 0
def wd (ws : List Bs) (i : Nat) : Bs := ws.getD i []
def hasForm (ws : List Bs) : Bool :=
  if wd ws 0 = wTopic then fitsL ws topicForm
  else if wd ws 0 = wFlow then fitsL ws boundForm || fitsL ws marksForm
  else if wd ws 0 = wFilter ∨ wd ws 0 = wSet then decide (1 < ws.length)
  else if wd ws 0 = wKey then fitsL ws keyForm
  else if wd ws 0 = wWindow then fitsL ws tumbleForm || (fitsL ws slideForm || fitsL ws sessionForm)
  else if wd ws 0 = wAgg then fitsL ws aggForm && decide (aggOf (wd ws 1) ≠ 0)
  else false
/-- What stands behind a line's first word. -/
def restOf (l : Bs) : Bs := Lib.trimLeftB ((Lib.trimB l 32).dropWhile (fun c => decide (c ≠ 32))) 32
def numOf (w : Bs) : Int := (numVal w : Nat)
def flowOf (ws : List Bs) : Flw :=
  { name := wd ws 1, frm := wd ws 3, dest := wd ws 5, bound := if wd ws 6 = wBound then numOf (wd ws 7) else -1, readers := numOf (wd ws (ws.length - 3)), keepers := numOf (wd ws (ws.length - 1)), pre := [], win := ⟨0, 0, 0⟩, agg := 0, post := [] }
def windowOf (ws : List Bs) : Win :=
  if wd ws 1 = wTumble then ⟨1, numOf (wd ws 2), 0⟩ else if wd ws 1 = wSlide then ⟨2, numOf (wd ws 2), numOf (wd ws 3)⟩ else ⟨3, numOf (wd ws 2), 0⟩
/-- The parser: the plan so far, where its topics and flows begin, the line of a window that waits. -/
structure PSt where
  tops : List Top
  flws : List Flw
  tl : List Nat
  fl : List Nat
  win : Nat
  deriving DecidableEq
def PSt.init : PSt := ⟨[], [], [], [], 0⟩
def onLast (g : Flw → Flw) : List Flw → List Flw
  | [] => []
  | [f] => [g f]
  | f :: r => f :: onLast g r
def lastKind (fs : List Flw) : Int := match fs.getLast? with | some f => f.win.kind | none => 0
def PSt.allows (s : PSt) (first : Bs) : Bool :=
  if s.win ≠ 0 ∨ first = wAgg then decide (s.win ≠ 0) && decide (first = wAgg)
  else if first = wTopic ∨ first = wFlow then true
  else if first = wWindow then decide (s.flws ≠ []) && decide (lastKind s.flws = 0)
  else decide (s.flws ≠ [])
def addStep (x : Stp) (f : Flw) : Flw := if f.win.kind = 0 then { f with pre := f.pre ++ [x] } else { f with post := f.post ++ [x] }
def PSt.put (s : PSt) (n : Nat) (ws : List Bs) (l : Bs) : PSt :=
  if wd ws 0 = wTopic then { s with tops := s.tops ++ [⟨wd ws 1, numOf (wd ws 2)⟩], tl := s.tl ++ [n] }
  else if wd ws 0 = wFlow then { s with flws := s.flws ++ [flowOf ws], fl := s.fl ++ [n] }
  else if wd ws 0 = wFilter then { s with flws := onLast (addStep ⟨1, restOf l, 0⟩) s.flws }
  else if wd ws 0 = wSet then { s with flws := onLast (addStep ⟨2, restOf l, 0⟩) s.flws }
  else if wd ws 0 = wKey then { s with flws := onLast (addStep ⟨3, [], numOf (wd ws 1)⟩) s.flws }
  else if wd ws 0 = wWindow then { s with flws := onLast (fun f => { f with win := windowOf ws }) s.flws, win := n }
  else if wd ws 0 = wAgg then { s with flws := onLast (fun f => { f with agg := aggOf (wd ws 1) }) s.flws, win := 0 }
  else s
def idle (ws : List Bs) : Bool := match ws with | [] => true | w :: _ => decide (w.head? = some 35)
def PSt.errOf (s : PSt) (l : Bs) : Int :=
  if idle (wordsOf l) = true then 0
  else if hasForm (wordsOf l) = false then 50
  else if s.allows (wd (wordsOf l) 0) = false then 54
  else 0
def PSt.next (s : PSt) (n : Nat) (l : Bs) : PSt := if idle (wordsOf l) = true then s else s.put n (wordsOf l) l
inductive Ran where
  | bad (line : Nat) (e : Int)
  | fine (s : PSt)
  deriving DecidableEq
def run (s : PSt) (n : Nat) : List Bs → Ran
  | [] => .fine s
  | l :: r => if s.errOf l = 0 then run (s.next n l) (n + 1) r else .bad n (s.errOf l)
inductive PRes where
  | ok (p : Pln)
  | err (line : Nat) (e : Int)
  deriving DecidableEq
def PSt.lineOf (s : PSt) (i : Nat) : Nat := if 101 ≤ i then s.fl.getD (i - 101) 0 else if 1 ≤ i then s.tl.getD (i - 1) 0 else 0
def PSt.finish (s : PSt) : PRes :=
  if s.win ≠ 0 then .err s.win 54
  else if (check ⟨s.tops, s.flws⟩).2 = 0 then .ok ⟨s.tops, s.flws⟩
  else .err (s.lineOf (check ⟨s.tops, s.flws⟩).1) (check ⟨s.tops, s.flws⟩).2
def parsePlan (text : Bs) : PRes :=
  if 4096 < text.length then .err 0 2
  else match run .init 1 (linesOf text) with
    | .bad n e => .err n e
    | .fine s => s.finish

/-! ### A plan's text -/
def lineB : List Bs → Bs
  | [] => [10]
  | [w] => w ++ [10]
  | w :: r => w ++ 32 :: lineB r
def stepText (s : Stp) : Bs :=
  if s.kind = 1 then lineB [wFilter, s.text] else if s.kind = 2 then lineB [wSet, s.text] else if s.kind = 3 then lineB [wKey, Lib.itoa s.n] else []
def stepsText (l : List Stp) : Bs := l.flatMap stepText
def topText (t : Top) : Bs := lineB [wTopic, t.name, Lib.itoa t.parts]
def winText (v : Win) : Bs :=
  if v.kind = 1 then lineB [wWindow, wTumble, Lib.itoa v.size] else if v.kind = 2 then lineB [wWindow, wSlide, Lib.itoa v.size, Lib.itoa v.slide] else lineB [wWindow, wSession, Lib.itoa v.size]
def aggWord (a : Int) : Bs := if a = 1 then wCount else if a = 2 then wSum else if a = 3 then wMin else wMax
def boundWord (b : Int) : Bs := if 0 ≤ b then wBound ++ [32] ++ Lib.itoa b else wMarks
def flwText (f : Flw) : Bs :=
  lineB [wFlow, f.name, wFrom, f.frm, wTo, f.dest, boundWord f.bound, wReaders, Lib.itoa f.readers, wKeepers, Lib.itoa f.keepers] ++ stepsText f.pre ++
  (if f.win.kind ≠ 0 then winText f.win ++ lineB [wAgg, aggWord f.agg] else []) ++ stepsText f.post
def planText (p : Pln) : Bs := p.tops.flatMap topText ++ p.flws.flatMap flwText
def bs (s : String) : Bs := s.toUTF8.data.toList
end Go.Proofs.YtfoenfipefhpoaaGreatDoor.Pl
/-
  Plans in memory: a slice that lists topics, steps, flows; a plan. Conditions: as the statements say.
-/
namespace Go.Proofs.YtfoenfipefhpoaaGreatDoor.Pl
open Go.RowKit Go.Proofs.YtfoenfipefhpoaaGreatDoor.Ex

theorem inebt {a b : Int} (h : ¬ a = b) : (a != b) = true := by simp [bne, h]
theorem inebf {a b : Int} (h : a = b) : (a != b) = false := by simp [bne, h]
theorem ibeq {a b : Int} (h : a = b) : (a == b) = true := by simp [h]
theorem ibne {a b : Int} (h : ¬ a = b) : (a == b) = false := by simp [h]
abbrev sv (l : Bs) : Value := .string ⟨l.toArray⟩
def topC (t : Top) : List Value := [sv t.name, .int .i64 t.parts]
def stpC (s : Stp) : List Value := [.int .i64 s.kind, sv s.text, .int .i64 s.n]
/-- A flow with the values of its two slices of steps. -/
structure FE where
  f : Flw
  pre : Value
  post : Value
def flwC (q : FE) : List Value := [sv q.f.name, sv q.f.frm, sv q.f.dest, .int .i64 q.f.bound, .int .i64 q.f.readers, .int .i64 q.f.keepers, q.pre, .int .i64 q.f.win.kind, .int .i64 q.f.win.size, .int .i64 q.f.win.slide, .int .i64 q.f.agg, q.post]
/-- The slice v lists L, k cells an element. -/
def Lst {α : Type} (k : Nat) (C : α → List Value) (w : World) (v : Value) (L : List α) : Prop :=
  ∃ a cap, v = .slice a L.length cap ∧ L.length ≤ cap ∧ L.length ≤ maxLen ∧ cap ≤ maxLen ∧
    (L ≠ [] → ∃ b o, a = some ⟨b, o, none⟩ ∧ b < w.heap.size ∧ ∀ i x, L[i]? = some x → ∀ j u, (C x)[j]? = some u → w.cell? ⟨b, o + i * k + j, none⟩ = some u)
theorem Lst.grow {α : Type} {k : Nat} {C : α → List Value} {w w' : World} {v : Value} {L : List α} (h : Lst k C w v L) (hb : Below w.heap.size w w') : Lst k C w' v L := by
  obtain ⟨a, cap, h1, h2, h3, h3', h4⟩ := h
  refine ⟨a, cap, h1, h2, h3, h3', fun h0 => ?_⟩
  obtain ⟨b, o, e, hl, hc⟩ := h4 h0
  exact ⟨b, o, e, Nat.lt_of_lt_of_le hl hb.size, fun i x hi j u hj => by rw [hb.cell (p := ⟨b, _, none⟩) hl]; exact hc i x hi j u hj⟩
/-- Its first i elements. -/
theorem Lst.take {α : Type} {k : Nat} {C : α → List Value} {w : World} {a : Option Addr} {n cap : Nat} {L : List α} (h : Lst k C w (.slice a n cap) L) {i : Nat} (hi : i ≤ L.length) : Lst k C w (.slice a i cap) (L.take i) := by
  obtain ⟨a', cap', h1, h2, h3, h3', h4⟩ := h
  injection h1 with e1 e2 e3
  subst e1 e2 e3
  have hl : (L.take i).length = i := by rw [List.length_take]; omega
  refine ⟨a, cap, by rw [hl], by omega, by omega, h3', fun h0 => ?_⟩
  obtain ⟨b, o, e, hlt, hc⟩ := h4 (fun e => by rw [e] at h0; simp at h0)
  refine ⟨b, o, e, hlt, fun j x hj => hc j x ?_⟩
  rw [List.getElem?_take] at hj
  split at hj
  · exact hj
  · cases hj
theorem Lst.len {α : Type} {k : Nat} {C : α → List Value} {w : World} {a : Option Addr} {n cap : Nat} {L : List α} (h : Lst k C w (.slice a n cap) L) : n = L.length ∧ n ≤ cap ∧ n ≤ maxLen ∧ cap ≤ maxLen := by
  obtain ⟨a', cap', h1, h2, h3, h3', h4⟩ := h
  injection h1 with e1 e2 e3
  subst e1 e2 e3
  exact ⟨rfl, h2, h3, h3'⟩
theorem Lst.at_ {α : Type} {k : Nat} {C : α → List Value} {w : World} {a : Option Addr} {n cap : Nat} {L : List α} (h : Lst k C w (.slice a n cap) L) {i : Nat} (hi : i < L.length) :
    ∃ b o, a = some ⟨b, o, none⟩ ∧ b < w.heap.size ∧ ∀ j u, (C L[i])[j]? = some u → w.cell? ⟨b, o + i * k + j, none⟩ = some u := by
  obtain ⟨a', cap', h1, h2, h3, h3', h4⟩ := h
  injection h1 with e1 e2 e3
  subst e1 e2 e3
  obtain ⟨b, o, e, hl, hc⟩ := h4 (fun e => by rw [e] at hi; simp at hi)
  exact ⟨b, o, e, hl, fun j u hj => hc i _ (List.getElem?_eq_getElem hi) j u hj⟩
theorem Lst.val {α : Type} {k : Nat} {C : α → List Value} {w : World} {v : Value} {L : List α} (h : Lst k C w v L) : ∃ a cap, v = .slice a L.length cap := by
  obtain ⟨a, cap, h1, _⟩ := h; exact ⟨a, cap, h1⟩
def TopsAt (w : World) (v : Value) (L : List Top) : Prop := Lst 2 topC w v L
def StpsAt (w : World) (v : Value) (L : List Stp) : Prop := Lst 3 stpC w v L ∧ ∀ s ∈ L, s.text.length ≤ maxLen
def FEok (w : World) (q : FE) : Prop := StpsAt w q.pre q.f.pre ∧ StpsAt w q.post q.f.post
def FlwsAt (w : World) (v : Value) (es : List FE) : Prop := Lst 12 flwC w v es ∧ ∀ q ∈ es, FEok w q
def PlnAt (w : World) (v : Value) (p : Pln) : Prop := ∃ vt vf es, v = .agg #[vt, vf] ∧ TopsAt w vt p.tops ∧ FlwsAt w vf es ∧ es.map FE.f = p.flws
theorem TopsAt.grow {w w' : World} {v : Value} {L : List Top} (h : TopsAt w v L) (hb : Below w.heap.size w w') : TopsAt w' v L := Lst.grow h hb
theorem StpsAt.grow {w w' : World} {v : Value} {L : List Stp} (h : StpsAt w v L) (hb : Below w.heap.size w w') : StpsAt w' v L := ⟨h.1.grow hb, h.2⟩
theorem FEok.grow {w w' : World} {q : FE} (h : FEok w q) (hb : Below w.heap.size w w') : FEok w' q := ⟨h.1.grow hb, h.2.grow hb⟩
theorem FlwsAt.grow {w w' : World} {v : Value} {es : List FE} (h : FlwsAt w v es) (hb : Below w.heap.size w w') : FlwsAt w' v es := ⟨h.1.grow hb, fun q hq => (h.2 q hq).grow hb⟩
theorem PlnAt.grow {w w' : World} {v : Value} {p : Pln} (h : PlnAt w v p) (hb : Below w.heap.size w w') : PlnAt w' v p := by
  obtain ⟨vt, vf, es, h1, h2, h3, h4⟩ := h
  exact ⟨vt, vf, es, h1, h2.grow hb, h3.grow hb, h4⟩
theorem FlwsAt.take {w : World} {a : Option Addr} {n cap : Nat} {es : List FE} (h : FlwsAt w (.slice a n cap) es) {i : Nat} (hi : i ≤ es.length) : FlwsAt w (.slice a i cap) (es.take i) :=
  ⟨h.1.take hi, fun q hq => h.2 q (List.mem_of_mem_take hq)⟩
/-- The cells of topic i. -/
theorem TopsAt.cells {w : World} {a : Option Addr} {n cap : Nat} {L : List Top} (h : TopsAt w (.slice a n cap) L) {i : Nat} (hi : i < L.length) :
    ∃ b o, a = some ⟨b, o, none⟩ ∧ b < w.heap.size ∧ w.cell? ⟨b, o + i * 2, none⟩ = some (sv L[i].name) ∧ w.cell? ⟨b, o + i * 2 + 1, none⟩ = some (.int .i64 L[i].parts) := by
  obtain ⟨b, o, e, hl, hc⟩ := h.at_ hi
  exact ⟨b, o, e, hl, hc 0 _ rfl, hc 1 _ rfl⟩
theorem StpsAt.cells {w : World} {a : Option Addr} {n cap : Nat} {L : List Stp} (h : StpsAt w (.slice a n cap) L) {i : Nat} (hi : i < L.length) :
    ∃ b o, a = some ⟨b, o, none⟩ ∧ b < w.heap.size ∧ w.cell? ⟨b, o + i * 3, none⟩ = some (.int .i64 L[i].kind) ∧ w.cell? ⟨b, o + i * 3 + 1, none⟩ = some (sv L[i].text) ∧ w.cell? ⟨b, o + i * 3 + 2, none⟩ = some (.int .i64 L[i].n) := by
  obtain ⟨b, o, e, hl, hc⟩ := h.1.at_ hi
  exact ⟨b, o, e, hl, hc 0 _ rfl, hc 1 _ rfl, hc 2 _ rfl⟩
theorem FlwsAt.cells {w : World} {a : Option Addr} {n cap : Nat} {es : List FE} (h : FlwsAt w (.slice a n cap) es) {i : Nat} (hi : i < es.length) :
    ∃ b o, a = some ⟨b, o, none⟩ ∧ b < w.heap.size ∧ w.cell? ⟨b, o + i * 12, none⟩ = some (sv es[i].f.name) ∧ w.cell? ⟨b, o + i * 12 + 1, none⟩ = some (sv es[i].f.frm) ∧ w.cell? ⟨b, o + i * 12 + 2, none⟩ = some (sv es[i].f.dest) ∧
      w.cell? ⟨b, o + i * 12 + 3, none⟩ = some (.int .i64 es[i].f.bound) ∧ w.cell? ⟨b, o + i * 12 + 4, none⟩ = some (.int .i64 es[i].f.readers) ∧ w.cell? ⟨b, o + i * 12 + 5, none⟩ = some (.int .i64 es[i].f.keepers) ∧ w.cell? ⟨b, o + i * 12 + 6, none⟩ = some es[i].pre ∧
      w.cell? ⟨b, o + i * 12 + 7, none⟩ = some (.int .i64 es[i].f.win.kind) ∧ w.cell? ⟨b, o + i * 12 + 8, none⟩ = some (.int .i64 es[i].f.win.size) ∧ w.cell? ⟨b, o + i * 12 + 9, none⟩ = some (.int .i64 es[i].f.win.slide) ∧
      w.cell? ⟨b, o + i * 12 + 10, none⟩ = some (.int .i64 es[i].f.agg) ∧ w.cell? ⟨b, o + i * 12 + 11, none⟩ = some es[i].post := by
  obtain ⟨b, o, e, hl, hc⟩ := h.1.at_ hi
  exact ⟨b, o, e, hl, hc 0 _ rfl, hc 1 _ rfl, hc 2 _ rfl, hc 3 _ rfl, hc 4 _ rfl, hc 5 _ rfl, hc 6 _ rfl, hc 7 _ rfl, hc 8 _ rfl, hc 9 _ rfl, hc 10 _ rfl, hc 11 _ rfl⟩
end Go.Proofs.YtfoenfipefhpoaaGreatDoor.Pl
/-
  The program's small tests on names, topics, windows. Conditions: as the statements say.
-/
namespace Go.Proofs.YtfoenfipefhpoaaGreatDoor.Pl
open Go.RowKit Go.Proofs.YtfoenfipefhpoaaGreatDoor.Ex

set_option maxHeartbeats 400000 in
theorem isNameByte_any (c : UInt8) (w : World) : Calls Tryz.prog 62 #[.int .u8 (c.toNat : Int)] w fun e w' => e = .returned (.bool (nameB c)) ∧ w = w' := by
  have h45 : (c == 45) = decide ((c.toNat : Int) = 45) := by
    rw [Bool.eq_iff_iff]; simp only [beq_iff_eq, decide_eq_true_eq]
    exact ⟨fun h => by rw [h]; rfl, fun h => UInt8.toNat_inj.1 (show c.toNat = 45 by omega)⟩
  unfold nameB
  rw [h45]
  clear h45
  go_enter Tryz.func62, Tryz.ntmps62
  go_wp2
  all_goals go_ret
  all_goals exact ⟨ret_bool (by rw [Bool.eq_iff_iff]; simp; omega), rfl⟩
theorem all_drop {P : UInt8 → Bool} (l : Bs) (k : Nat) (hk : k < l.length) : (l.drop k).all P = (P l[k] && (l.drop (k + 1)).all P) := by
  rw [List.drop_eq_getElem_cons hk]; rfl
set_option maxHeartbeats 400000 in
theorem isName_any (s : ByteArray) (w : World) : Calls Tryz.prog 43 #[.string s] w fun e w' => e = .returned (.bool (isName s.data.toList)) ∧ w = w' := by
  have hlen : s.data.toList.length = s.size := by simp
  by_cases hb : s.size < 1 ∨ 16 < s.size
  · have H : Hid (isName s.data.toList = false) := Lib.hid (by unfold isName; rw [hlen]; rcases hb with h | h <;> simp <;> omega)
    clear hlen
    rcases hb with h | h
    · go_enter Tryz.func43, Tryz.ntmps43
      go_wp2
      go_ret
      exact ⟨ret_bool H.out.symm, rfl⟩
    · have h1 : ¬ s.size < 1 := by omega
      go_enter Tryz.func43, Tryz.ntmps43
      go_wp2
      go_ret
      exact ⟨ret_bool H.out.symm, rfl⟩
  · have h1 : ¬ s.size < 1 := by omega
    have h2 : ¬ 16 < s.size := by omega
    have H : Hid (isName s.data.toList = s.data.toList.all nameB) := Lib.hid (by unfold isName; rw [hlen, decide_eq_true (by omega : 1 ≤ s.size), decide_eq_true (by omega : s.size ≤ 16)]; rfl)
    clear hlen hb
    go_enter Tryz.func43, Tryz.ntmps43
    go_wp2
    go_loop [14] (fun i => ∃ k : Nat, k ≤ s.size ∧ i = .int .i64 k ∧ Hid (isName s.data.toList = (s.data.toList.drop k).all nameB)) (fun i => s.size - (intOf i).toNat)
    case atStart => exact ⟨0, Nat.zero_le _, rfl, by simpa using H⟩
    case round =>
      obtain ⟨k, hk, rfl, hr⟩ := hrel
      by_cases hlt : k < s.size
      · have hd := all_drop (P := nameB) s.data.toList k (by simpa using hlt)
        cases hp : nameB s[k] with
        | true =>
          have HR : Hid (isName s.data.toList = (s.data.toList.drop (k + 1)).all nameB) := Lib.hid (by
            have : nameB s.data.toList[k] = true := hp
            rw [hr.out, hd, this]; rfl)
          have HP := Lib.hid hp
          clear hr hd hp
          go_wp2_with (go_at_call 62; refine (isNameByte_any _ _).mono ?_; rintro e w' ⟨rfl, rfl⟩; rw [HP.out])
          go_round
          case rel => exact ⟨k + 1, by omega, by go_num, HR⟩
          case measure => simp [intOf]; omega
        | false =>
          have HR : Hid (isName s.data.toList = false) := Lib.hid (by
            have : nameB s.data.toList[k] = false := hp
            rw [hr.out, hd, this]; rfl)
          have HP := Lib.hid hp
          clear hr hd hp
          go_wp2_with (go_at_call 62; refine (isNameByte_any _ _).mono ?_; rintro e w' ⟨rfl, rfl⟩; rw [HP.out])
          go_ret
          exact ⟨ret_bool HR.out.symm, rfl⟩
      · have HR : Hid (isName s.data.toList = true) := Lib.hid (by rw [hr.out, List.drop_eq_nil_of_le (by simp; omega)]; rfl)
        clear hr
        go_wp2
        go_ret
        exact ⟨ret_bool HR.out.symm, rfl⟩
theorem partsOf_drop (L : List Top) (n : Bs) (k : Nat) (hk : k < L.length) : partsOf (L.drop k) n = if L[k].name = n then L[k].parts else partsOf (L.drop (k + 1)) n := by
  rw [List.drop_eq_getElem_cons hk]; rfl
theorem beq_of_eq {a b : Bs} (h : a = b) : (a == b) = true := by simp [h]
theorem beq_of_ne {a b : Bs} (h : ¬ a = b) : (a == b) = false := by simp [h]
theorem toList_mk (l : Bs) : (⟨l.toArray⟩ : ByteArray).toList = l := by rw [Lib.toList_data]
set_option maxHeartbeats 1000000 in
theorem partsOf_any {w : World} {a : Option Addr} {n cap : Nat} {L : List Top} (h : TopsAt w (.slice a n cap) L) (s : ByteArray) :
    Calls Tryz.prog 44 #[.slice a n cap, .string s] w fun e w' => e = .returned (.int .i64 (partsOf L s.data.toList)) ∧ Below w.heap.size w w' := by
  obtain ⟨hn, hcap, hmax, _⟩ := h.len
  unfold maxLen at hmax
  obtain ⟨R, hR⟩ : ∃ R, partsOf L s.data.toList = R := ⟨_, rfl⟩
  rw [hR]
  have HR := Lib.hid hR
  have HN := Lib.hid hn
  have HT := Lib.hid h
  clear hR h hn
  go_enter Tryz.func44, Tryz.ntmps44
  go_wp2
  go_loopw [9] (fun i wr => ∃ k : Nat, k ≤ n ∧ i = .int .i64 k ∧ Hid (partsOf (L.drop k) s.data.toList = R) ∧ Hid (Below w.heap.size w wr)) (fun i _ => n - (intOf i).toNat)
  case atStart => exact ⟨0, Nat.zero_le _, rfl, by simpa using HR, Below.refl _ _⟩
  case round =>
    obtain ⟨k, hk, rfl, hr, hb⟩ := hrel
    by_cases hlt : k < n
    · have hkl : k < L.length := by rw [← HN.out]; exact hlt
      obtain ⟨b, o, rfl, hbl, c0, c1⟩ := TopsAt.cells (HT.out.grow hb.out) hkl
      have hd := partsOf_drop L s.data.toList k hkl
      by_cases he : L[k].name = s.data.toList
      · have HD : Hid (R = L[k].parts) := Lib.hid (by rw [← hr.out, hd, if_pos he])
        have e1 : (L[k].name == s.toList) = true := by rw [Lib.toList_data]; exact beq_of_eq he
        clear hr hd he
        go_wp2
        go_ret
        exact ⟨ret_int HD.out.symm, hb.out.trans ((((Below.refl _ _).alloc (Nat.le_refl _) _)).mono hb.out.size)⟩
      · have HD : Hid (partsOf (L.drop (k + 1)) s.data.toList = R) := Lib.hid (by rw [← hr.out, hd, if_neg he])
        have e1 : (L[k].name == s.toList) = false := by rw [Lib.toList_data]; exact beq_of_ne he
        clear hr hd he
        go_wp2
        go_roundw
        case rel => exact ⟨k + 1, by omega, by go_num, HD, Lib.hid (hb.out.trans ((((Below.refl _ _).alloc (Nat.le_refl _) _)).mono hb.out.size))⟩
        case measure => simp [intOf]; omega
    · have hkn : k = n := by omega
      have HD : Hid (R = 0) := Lib.hid (by rw [← hr.out, List.drop_eq_nil_of_le (by have := HN.out; omega)]; rfl)
      clear hr
      subst hkn
      go_wp2
      go_ret
      exact ⟨ret_int HD.out.symm, hb.out⟩
theorem partsOf_at {w : World} {a : Option Addr} {n cap : Nat} {L : List Top} (h : TopsAt w (.slice a n cap) L) {l : Bs} {r : Int} (hr : partsOf L l = r) :
    Calls Tryz.prog 44 #[.slice a n cap, sv l] w fun e w' => e = .returned (.int .i64 r) ∧ Below w.heap.size w w' := by
  subst hr; exact partsOf_any h ⟨l.toArray⟩
theorem isName_at (l : Bs) (w : World) {r : Bool} (hr : isName l = r) : Calls Tryz.prog 43 #[sv l] w fun e w' => e = .returned (.bool r) ∧ w = w' := by
  subst hr; exact isName_any ⟨l.toArray⟩ w
end Go.Proofs.YtfoenfipefhpoaaGreatDoor.Pl
/-
  slices.ContainsFunc over a row of flows, whatever the test; the program's two tests. Conditions: as the statements say.
-/
namespace Go.Proofs.YtfoenfipefhpoaaGreatDoor.Pl
open Go.RowKit Go.Proofs.YtfoenfipefhpoaaGreatDoor.Ex

/-- What is asked of a test: at each flow it answers P, and what was there stays. -/
def Pays (g : Nat) (lb : Array Value) (P : FE → Bool) (w : World) : Prop :=
  ∀ (W : World) (x : FE), Below w.heap.size w W → Calls Tryz.prog g (#[.agg (flwC x).toArray] ++ lb) W fun e w' => e = .returned (.bool (P x)) ∧ Below W.heap.size W w'
theorem any_drop (P : FE → Bool) (es : List FE) (k : Nat) (hk : k < es.length) : (es.drop k).any P = (P es[k] || (es.drop (k + 1)).any P) := by
  rw [List.drop_eq_getElem_cons hk]; rfl
/-- A place, or -1. -/
def PlaceB (b : Bool) (r : Int) : Prop := if b = true then 0 ≤ r else r < 0
set_option maxRecDepth 20000 in
set_option maxHeartbeats 1000000 in
theorem indexFunc_any {w : World} {a : Option Addr} {n cap : Nat} {es : List FE} (h : Lst 12 flwC w (.slice a n cap) es) (P : FE → Bool) (g : Nat) (lb : Array Value)
    (eg : ∀ args w, (callFunc g args).run Tryz.prog w = .ok (.enter g args) w) (hp : Pays g lb P w) :
    Calls Tryz.prog 63 #[.slice a n cap, .func (.func g) #[] lb] w fun e w' => ∃ r : Int, e = .returned (.int .i64 r) ∧ PlaceB (es.any P) r ∧ Below w.heap.size w w' := by
  obtain ⟨hn, hcap, hmax, _⟩ := h.len
  unfold maxLen at hmax
  obtain ⟨R, hR⟩ : ∃ R, es.any P = R := ⟨_, rfl⟩
  rw [hR]
  have HR := Lib.hid hR
  have HN := Lib.hid hn
  have HT := Lib.hid h
  have HP := Lib.hid hp
  clear hR h hn hp
  go_enter Tryz.func63, Tryz.ntmps63
  go_wp2
  go_loopw [8] (fun i wr => ∃ k : Nat, k ≤ n ∧ i = .int .i64 k ∧ Hid ((es.drop k).any P = R) ∧ Hid (Below w.heap.size w wr)) (fun i _ => n - (intOf i).toNat)
  case atStart => exact ⟨0, Nat.zero_le _, rfl, by simpa using HR, Below.refl _ _⟩
  case round =>
    obtain ⟨k, hk, rfl, hr, hb⟩ := hrel
    by_cases hlt : k < n
    · have hkl : k < es.length := by rw [← HN.out]; exact hlt
      obtain ⟨b, o, rfl, hbl, c⟩ := (HT.out.grow hb.out).at_ hkl
      have c0 := c 0 _ rfl; have c1 := c 1 _ rfl; have c2 := c 2 _ rfl; have c3 := c 3 _ rfl; have c4 := c 4 _ rfl; have c5 := c 5 _ rfl; have c6 := c 6 _ rfl; have c7 := c 7 _ rfl; have c8 := c 8 _ rfl; have c9 := c 9 _ rfl; have c10 := c 10 _ rfl; have c11 := c 11 _ rfl
      have hd := any_drop P es k hkl
      have HC := Lib.hid (HP.out wr es[k] hb.out)
      clear c
      rw [Nat.add_zero] at c0
      generalize es[k] = x at c0 c1 c2 c3 c4 c5 c6 c7 c8 c9 c10 c11 hd HC
      cases hx : P x with
      | true =>
        have HD : Hid (R = true) := Lib.hid (by rw [← hr.out, hd, hx]; rfl)
        rw [hx] at HC
        clear hr hd hx
        go_wp2_with (go_at_fn g; refine HC.out.mono ?_; rintro e w' ⟨rfl, hb'⟩)
        go_ret
        exact ⟨_, rfl, by rw [HD.out]; exact Int.natCast_nonneg _, hb.out.trans (hb'.mono hb.out.size)⟩
      | false =>
        have HD : Hid ((es.drop (k + 1)).any P = R) := Lib.hid (by rw [← hr.out, hd, hx]; rfl)
        rw [hx] at HC
        clear hr hd hx
        go_wp2_with (go_at_fn g; refine HC.out.mono ?_; rintro e w' ⟨rfl, hb'⟩)
        go_roundw
        case rel => exact ⟨k + 1, by omega, by go_num, HD, Lib.hid (hb.out.trans (hb'.mono hb.out.size))⟩
        case measure => simp [intOf]; omega
    · have hkn : k = n := by omega
      have HD : Hid (R = false) := Lib.hid (by rw [← hr.out, List.drop_eq_nil_of_le (by have := HN.out; omega)]; rfl)
      clear hr
      subst hkn
      go_wp2
      go_ret
      exact ⟨_, rfl, by rw [HD.out]; show (-1 : Int) < 0; omega, hb.out⟩
set_option maxHeartbeats 1000000 in
theorem containsFunc_any {w : World} {a : Option Addr} {n cap : Nat} {es : List FE} (h : Lst 12 flwC w (.slice a n cap) es) (P : FE → Bool) (g : Nat) (lb : Array Value)
    (eg : ∀ args w, (callFunc g args).run Tryz.prog w = .ok (.enter g args) w) (hp : Pays g lb P w) :
    Calls Tryz.prog 45 #[.slice a n cap, .func (.func g) #[] lb] w fun e w' => e = .returned (.bool (es.any P)) ∧ Below w.heap.size w w' := by
  have HC := Lib.hid (indexFunc_any h P g lb eg hp)
  clear h eg hp
  cases hx : es.any P with
  | true =>
    rw [hx] at HC
    clear hx
    go_enter Tryz.func45, Tryz.ntmps45
    go_wp2_with (go_at_call 63; refine HC.out.mono ?_; rintro e w' ⟨r, rfl, hr, hb⟩; replace hr : 0 ≤ r := hr)
    go_ret
    exact ⟨rfl, hb⟩
  | false =>
    rw [hx] at HC
    clear hx
    go_enter Tryz.func45, Tryz.ntmps45
    go_wp2_with (go_at_call 63; refine HC.out.mono ?_; rintro e w' ⟨r, rfl, hr, hb⟩; replace hr : ¬ 0 ≤ r := Int.not_le.2 hr)
    go_ret
    exact ⟨ret_bool (decide_eq_false (Int.not_le.2 hr)), hb⟩
end Go.Proofs.YtfoenfipefhpoaaGreatDoor.Pl
/-
  The program's tests on a flow's ends, bound, counts, windows. Conditions: as the statements say.
-/
namespace Go.Proofs.YtfoenfipefhpoaaGreatDoor.Pl
open Go.RowKit Go.Proofs.YtfoenfipefhpoaaGreatDoor.Ex

theorem sv_bytes (s : ByteArray) : sv s.data.toList = .string s := rfl
set_option maxHeartbeats 1000000 in
theorem writes_pays {w : World} {b : Nat} {s : ByteArray} (hb : b < w.heap.size) (hc : w.cell? ⟨b, 0, none⟩ = some (.string s)) : Pays 64 #[ptr b] (fun q => decide (q.f.dest = s.data.toList)) w := by
  intro W x hbW
  have hc' : W.cell? ⟨b, 0, none⟩ = some (.string s) := (hbW.cell (p := ⟨b, 0, none⟩) hb).trans hc
  have hlt : b < W.heap.size := Nat.lt_of_lt_of_le hb hbW.size
  have hne : b ≠ W.heap.size := by omega
  clear hc hbW hb
  show Calls Tryz.prog 64 #[.agg #[sv x.f.name, sv x.f.frm, sv x.f.dest, .int .i64 x.f.bound, .int .i64 x.f.readers, .int .i64 x.f.keepers, x.pre, .int .i64 x.f.win.kind, .int .i64 x.f.win.size, .int .i64 x.f.win.slide, .int .i64 x.f.agg, x.post], ptr b] W _
  by_cases he : x.f.dest = s.data.toList
  · have e1 : (x.f.dest == s.toList) = true := by rw [Lib.toList_data]; exact beq_of_eq he
    have HE : Hid (decide (x.f.dest = s.data.toList) = true) := Lib.hid (decide_eq_true he)
    clear he
    go_enter Tryz.func64, Tryz.ntmps64
    go_wp2
    go_ret
    exact ⟨ret_bool HE.out.symm, (Below.refl _ _).alloc (Nat.le_refl _) _⟩
  · have e1 : (x.f.dest == s.toList) = false := by rw [Lib.toList_data]; exact beq_of_ne he
    have HE : Hid (decide (x.f.dest = s.data.toList) = false) := Lib.hid (decide_eq_false he)
    clear he
    go_enter Tryz.func64, Tryz.ntmps64
    go_wp2
    go_ret
    exact ⟨ret_bool HE.out.symm, (Below.refl _ _).alloc (Nat.le_refl _) _⟩
theorem any_map (es : List FE) (P : Flw → Bool) : (es.map FE.f).any P = es.any (fun q => P q.f) := by
  induction es with
  | nil => rfl
  | cons q r ih => simp [ih]
set_option maxHeartbeats 1000000 in
theorem writes_any {w : World} {a : Option Addr} {n cap : Nat} {es : List FE} (h : FlwsAt w (.slice a n cap) es) (s : ByteArray) {B : Bool} (hB : writes (es.map FE.f) s.data.toList = B) :
    Calls Tryz.prog 48 #[.slice a n cap, .string s] w fun e w' => e = .returned (.bool B) ∧ Below w.heap.size w w' := by
  have HB : Hid (es.any (fun q => decide (q.f.dest = s.data.toList)) = B) := Lib.hid (by rw [← hB]; exact (any_map es (fun f => decide (f.dest = s.data.toList))).symm)
  have hb0 : Below w.heap.size w (w.alloc (.cells #[.string s] 9)) := (Below.refl _ _).alloc (Nat.le_refl _) _
  have HC := Lib.hid (containsFunc_any (h.grow hb0).1 (fun q => decide (q.f.dest = s.data.toList)) 64 #[ptr w.heap.size] (enters_of Tryz.func64 (by kernel_rfl) rfl) (writes_pays (by simp) (by simp)))
  have H0 := Lib.hid hb0
  clear h hB hb0
  go_enter Tryz.func48, Tryz.ntmps48
  go_wp2_with (go_at_call 45; refine HC.out.mono ?_; rintro e w' ⟨rfl, hb⟩)
  go_ret
  exact ⟨ret_bool HB.out, H0.out.trans (hb.mono H0.out.size)⟩
abbrev flwV (q : FE) : Value := .agg #[sv q.f.name, sv q.f.frm, sv q.f.dest, .int .i64 q.f.bound, .int .i64 q.f.readers, .int .i64 q.f.keepers, q.pre, .int .i64 q.f.win.kind, .int .i64 q.f.win.size, .int .i64 q.f.win.slide, .int .i64 q.f.agg, q.post]
abbrev winV (v : Win) : Value := .agg #[.int .i64 v.kind, .int .i64 v.size, .int .i64 v.slide]
set_option maxHeartbeats 1000000 in
theorem isAgg_any (v : Win) (g : Int) (w : World) : Calls Tryz.prog 52 #[winV v, .int .i64 g] w fun e w' => e = .returned (.bool (isAgg v g)) ∧ Below w.heap.size w w' := by
  unfold isAgg
  by_cases h0 : v.kind = 0
  · rw [if_pos h0]
    go_enter Tryz.func52, Tryz.ntmps52
    go_wp2
    all_goals go_ret
    all_goals exact ⟨rfl, (Below.refl _ _).alloc (Nat.le_refl _) _⟩
  · rw [if_neg h0]
    go_enter Tryz.func52, Tryz.ntmps52
    go_wp2
    all_goals go_ret
    all_goals exact ⟨ret_bool (by first | rfl | (rw [Bool.eq_iff_iff]; simp [*]; done) | (rw [Bool.eq_iff_iff]; simp [*]; intros; omega)), (Below.refl _ _).alloc (Nat.le_refl _) _⟩
set_option maxHeartbeats 1000000 in
theorem isWindow_any (v : Win) (w : World) : Calls Tryz.prog 51 #[winV v] w fun e w' => e = .returned (.bool (isWindow v)) ∧ Below w.heap.size w w' := by
  unfold isWindow
  by_cases h0 : v.kind = 0
  · rw [if_pos h0]
    go_enter Tryz.func51, Tryz.ntmps51
    go_wp2
    all_goals go_ret
    all_goals exact ⟨ret_bool (by first | rfl | (rw [Bool.eq_iff_iff]; simp [*]; done) | (rw [Bool.eq_iff_iff]; simp [*]; intros; omega)), (Below.refl _ _).alloc (Nat.le_refl _) _⟩
  rw [if_neg h0]
  by_cases h1 : v.kind = 1
  · rw [if_pos (.inl h1)]
    go_enter Tryz.func51, Tryz.ntmps51
    go_wp2
    all_goals go_ret
    all_goals exact ⟨ret_bool (by first | rfl | (rw [Bool.eq_iff_iff]; simp [*]; done) | (rw [Bool.eq_iff_iff]; simp [*]; intros; omega)), (Below.refl _ _).alloc (Nat.le_refl _) _⟩
  by_cases h3 : v.kind = 3
  · rw [if_pos (.inr h3)]
    go_enter Tryz.func51, Tryz.ntmps51
    go_wp2
    all_goals go_ret
    all_goals exact ⟨ret_bool (by first | rfl | (rw [Bool.eq_iff_iff]; simp [*]; done) | (rw [Bool.eq_iff_iff]; simp [*]; intros; omega)), (Below.refl _ _).alloc (Nat.le_refl _) _⟩
  rw [if_neg (by simp [h1, h3])]
  by_cases h2 : v.kind = 2
  · rw [if_pos h2]
    go_enter Tryz.func51, Tryz.ntmps51
    go_wp2
    all_goals go_ret
    all_goals exact ⟨ret_bool (by first | rfl | (rw [Bool.eq_iff_iff]; simp [*]; done) | (rw [Bool.eq_iff_iff]; simp [*]; intros; omega)), (Below.refl _ _).alloc (Nat.le_refl _) _⟩
  · rw [if_neg h2]
    go_enter Tryz.func51, Tryz.ntmps51
    go_wp2
    all_goals go_ret
    all_goals exact ⟨rfl, (Below.refl _ _).alloc (Nat.le_refl _) _⟩
/-- A flow's own block. -/
def Box (w : World) (b : Nat) (q : FE) : Prop := w.heap[b]? = some (.cells #[sv q.f.name, sv q.f.frm, sv q.f.dest, .int .i64 q.f.bound, .int .i64 q.f.readers, .int .i64 q.f.keepers, q.pre, .int .i64 q.f.win.kind, .int .i64 q.f.win.size, .int .i64 q.f.win.slide, .int .i64 q.f.agg, q.post] 51 (0, 0))
theorem Box.grow {w w' : World} {b : Nat} {q : FE} (h : Box w b q) (hb : Below w.heap.size w w') : Box w' b q := by
  unfold Box at *; rw [hb.block b (lt_of_heap h)]; exact h
theorem Box.new (w : World) (q : FE) : Box (w.alloc (.cells #[sv q.f.name, sv q.f.frm, sv q.f.dest, .int .i64 q.f.bound, .int .i64 q.f.readers, .int .i64 q.f.keepers, q.pre, .int .i64 q.f.win.kind, .int .i64 q.f.win.size, .int .i64 q.f.win.slide, .int .i64 q.f.agg, q.post] 51)) w.heap.size q := heap_alloc_new w _
theorem Box.cells {w : World} {b : Nat} {q : FE} (h : Box w b q) : w.cell? ⟨b, 0, none⟩ = some (sv q.f.name) ∧ w.cell? ⟨b, 1, none⟩ = some (sv q.f.frm) ∧ w.cell? ⟨b, 2, none⟩ = some (sv q.f.dest) ∧ w.cell? ⟨b, 3, none⟩ = some (.int .i64 q.f.bound) ∧ w.cell? ⟨b, 4, none⟩ = some (.int .i64 q.f.readers) ∧ w.cell? ⟨b, 5, none⟩ = some (.int .i64 q.f.keepers) ∧ w.cell? ⟨b, 6, none⟩ = some q.pre ∧
    w.cell? ⟨b, 7, none⟩ = some (.int .i64 q.f.win.kind) ∧ w.cell? ⟨b, 8, none⟩ = some (.int .i64 q.f.win.size) ∧ w.cell? ⟨b, 9, none⟩ = some (.int .i64 q.f.win.slide) ∧ w.cell? ⟨b, 10, none⟩ = some (.int .i64 q.f.agg) ∧ w.cell? ⟨b, 11, none⟩ = some q.post := by
  refine ⟨?_, ?_, ?_, ?_, ?_, ?_, ?_, ?_, ?_, ?_, ?_, ?_⟩ <;> rw [cell_of_heap h] <;> rfl
set_option maxHeartbeats 1000000 in
theorem areEnds_any {w : World} {a : Option Addr} {n cap : Nat} {L : List Top} (h : TopsAt w (.slice a n cap) L) (q : FE) {R : Bool} (hR : areEnds L q.f = R) :
    Calls Tryz.prog 47 #[.slice a n cap, flwV q] w fun e w' => e = .returned (.bool R) ∧ Below w.heap.size w w' := by
  have hb0 : Below w.heap.size w (w.alloc (.cells (flwC q).toArray 51)) := (Below.refl _ _).alloc (Nat.le_refl _) _
  have HB := Lib.hid hb0
  have HT := Lib.hid (TopsAt.grow h hb0)
  have HX0 := Lib.hid (Box.new w q)
  unfold areEnds at hR
  obtain ⟨x, hx⟩ : ∃ x, partsOf L q.f.frm = x := ⟨_, rfl⟩
  obtain ⟨y, hy⟩ : ∃ y, partsOf L q.f.dest = y := ⟨_, rfl⟩
  rw [hx, hy] at hR
  have HX := Lib.hid hx
  have HY := Lib.hid hy
  have HR := Lib.hid hR
  clear h hb0 hx hy hR
  by_cases he : q.f.frm = q.f.dest
  · have e1 : (q.f.frm == q.f.dest) = true := beq_of_eq he
    have e2 : (q.f.frm != q.f.dest) = false := by simp [bne, e1]
    have HE := Lib.hid he
    clear he
    go_enter Tryz.func47, Tryz.ntmps47
    go_wp2_with fail
    refine Calls.mono (partsOf_at HT.out HX.out) ?_
    rintro e w1 ⟨rfl, hb1⟩
    have HB1 := Lib.hid (HB.out.trans (hb1.mono HB.out.size)); have HT1 := Lib.hid (TopsAt.grow HT.out hb1)
    obtain ⟨d0, d1, d2, -⟩ := (HX0.out.grow hb1).cells
    have HX1 := Lib.hid (HX0.out.grow hb1)
    clear hb1
    go_wp2_with (refine Calls.mono (partsOf_at HT1.out HY.out) ?_; rintro e w2 ⟨rfl, hb2⟩; have HB2 := Lib.hid (HB1.out.trans (hb2.mono HB1.out.size)); obtain ⟨g0, g1, g2, -⟩ := (HX1.out.grow hb2).cells; clear hb2)
    all_goals go_ret
    all_goals exact ⟨ret_bool (by rw [← HR.out]; first | (simp [*, HE.out]; done) | (simp [*, HE.out]; intros; omega)), by first | exact HB2.out | exact HB1.out⟩
  · have e1 : (q.f.frm == q.f.dest) = false := beq_of_ne he
    have e2 : (q.f.frm != q.f.dest) = true := by simp [bne, e1]
    have HE := Lib.hid he
    clear he
    go_enter Tryz.func47, Tryz.ntmps47
    go_wp2_with fail
    refine Calls.mono (partsOf_at HT.out HX.out) ?_
    rintro e w1 ⟨rfl, hb1⟩
    have HB1 := Lib.hid (HB.out.trans (hb1.mono HB.out.size)); have HT1 := Lib.hid (TopsAt.grow HT.out hb1)
    obtain ⟨d0, d1, d2, -⟩ := (HX0.out.grow hb1).cells
    have HX1 := Lib.hid (HX0.out.grow hb1)
    clear hb1
    go_wp2_with (refine Calls.mono (partsOf_at HT1.out HY.out) ?_; rintro e w2 ⟨rfl, hb2⟩; have HB2 := Lib.hid (HB1.out.trans (hb2.mono HB1.out.size)); obtain ⟨g0, g1, g2, -⟩ := (HX1.out.grow hb2).cells; clear hb2)
    all_goals go_ret
    all_goals exact ⟨ret_bool (by rw [← HR.out]; first | (simp [*, HE.out]; done) | (simp [*, HE.out]; intros; omega)), by first | exact HB2.out | exact HB1.out⟩
end Go.Proofs.YtfoenfipefhpoaaGreatDoor.Pl
/-
  The program's tests on a flow's bound and counts. Conditions: as the statements say.
-/
namespace Go.Proofs.YtfoenfipefhpoaaGreatDoor.Pl
open Go.RowKit Go.Proofs.YtfoenfipefhpoaaGreatDoor.Ex

set_option maxHeartbeats 1000000 in
theorem areCounts_any {w : World} {a : Option Addr} {n cap : Nat} {L : List Top} (h : TopsAt w (.slice a n cap) L) (q : FE) {R : Bool} (hR : areCounts L q.f = R) :
    Calls Tryz.prog 50 #[.slice a n cap, flwV q] w fun e w' => e = .returned (.bool R) ∧ Below w.heap.size w w' := by
  have hb0 : Below w.heap.size w (w.alloc (.cells (flwC q).toArray 51)) := (Below.refl _ _).alloc (Nat.le_refl _) _
  have HB := Lib.hid hb0
  have HT := Lib.hid (TopsAt.grow h hb0)
  have HX0 := Lib.hid (Box.new w q)
  unfold areCounts at hR
  obtain ⟨x, hx⟩ : ∃ x, partsOf L q.f.frm = x := ⟨_, rfl⟩
  rw [hx] at hR
  have HX := Lib.hid hx
  have HR := Lib.hid hR
  clear h hb0 hx hR
  by_cases h8 : x < 8
  · go_enter Tryz.func50, Tryz.ntmps50
    go_wp2_with fail
    refine Calls.mono (partsOf_at HT.out HX.out) ?_
    rintro e w1 ⟨rfl, hb1⟩
    have HB1 := Lib.hid (HB.out.trans (hb1.mono HB.out.size))
    obtain ⟨d0, d1, d2, d3, d4, d5, -⟩ := (HX0.out.grow hb1).cells
    clear hb1
    go_wp2
    all_goals go_ret
    all_goals exact ⟨ret_bool (by rw [← HR.out, Bool.eq_iff_iff]; simp [*]; try omega), HB1.out⟩
  · go_enter Tryz.func50, Tryz.ntmps50
    go_wp2_with fail
    refine Calls.mono (partsOf_at HT.out HX.out) ?_
    rintro e w1 ⟨rfl, hb1⟩
    have HB1 := Lib.hid (HB.out.trans (hb1.mono HB.out.size))
    obtain ⟨d0, d1, d2, d3, d4, d5, -⟩ := (HX0.out.grow hb1).cells
    clear hb1
    go_wp2
    all_goals go_ret
    all_goals exact ⟨ret_bool (by rw [← HR.out, Bool.eq_iff_iff]; simp [*]; try omega), HB1.out⟩
set_option maxHeartbeats 1000000 in
theorem isBound_any {w : World} {a : Option Addr} {n cap : Nat} {es : List FE} (h : FlwsAt w (.slice a n cap) es) (q : FE) {R : Bool} (hR : isBound (es.map FE.f) q.f = R) :
    Calls Tryz.prog 49 #[.slice a n cap, flwV q] w fun e w' => e = .returned (.bool R) ∧ Below w.heap.size w w' := by
  have hb0 : Below w.heap.size w (w.alloc (.cells (flwC q).toArray 51)) := (Below.refl _ _).alloc (Nat.le_refl _) _
  have HB := Lib.hid hb0
  have HT := Lib.hid (FlwsAt.grow h hb0)
  unfold isBound at hR
  obtain ⟨x, hx⟩ : ∃ x, writes (es.map FE.f) q.f.frm = x := ⟨_, rfl⟩
  rw [hx] at hR
  have HX := Lib.hid hx
  have HR := Lib.hid hR
  clear h hb0 hx hR
  go_enter Tryz.func49, Tryz.ntmps49
  go_wp2_with (go_at_call 48; refine (writes_any HT.out ⟨q.f.frm.toArray⟩ HX.out).mono ?_; rintro e w1 ⟨rfl, hb1⟩; have HB1 := Lib.hid (HB.out.trans (hb1.mono HB.out.size)); clear hb1)
  all_goals go_ret
  all_goals exact ⟨ret_bool (by rw [← HR.out, Bool.eq_iff_iff]; first | (simp [*]; done) | (simp [*]; intros; omega)), by first | exact HB1.out | exact HB.out | exact (Below.refl _ _).alloc (Nat.le_refl _) _⟩
end Go.Proofs.YtfoenfipefhpoaaGreatDoor.Pl
/-
  The program's tests on a step, on a flow's steps. Conditions: the library's table of powers holds what it was laid with.
-/
namespace Go.Proofs.YtfoenfipefhpoaaGreatDoor.Pl
open Go.RowKit Go.Proofs.YtfoenfipefhpoaaGreatDoor.Ex

theorem expr_any {s : ByteArray} {w : World} (hs : s.size ≤ maxLen) (hT : Tab w) :
    Calls Tryz.prog 74 #[.string s] w fun e w' => ∃ (p : Option Addr) (pos : Nat), e = .returned (.tuple #[.pointer p, .int .i64 pos, .int .i64 (exprErr s.data.toList)]) ∧ Below w.heap.size w w' := by
  refine (parse_any hs hT).mono ?_
  unfold exprErr
  intro e w' h
  cases hp : parse s.data.toList with
  | ok T =>
    rw [hp] at h
    obtain ⟨hb, -, -, b, he, -⟩ := h
    exact ⟨_, 0, he, hb⟩
  | err pos n =>
    rw [hp] at h
    exact ⟨none, pos, h.2, h.1⟩
theorem expr_at {l : Bs} {w : World} (hs : l.length ≤ maxLen) (hT : Tab w) {r : Int} (hr : exprErr l = r) :
    Calls Tryz.prog 74 #[sv l] w fun e w' => ∃ (p : Option Addr) (pos : Nat), e = .returned (.tuple #[.pointer p, .int .i64 pos, .int .i64 r]) ∧ Below w.heap.size w w' := by
  subst hr; exact expr_any (s := ⟨l.toArray⟩) (by show l.toArray.size ≤ maxLen; rw [List.size_toArray]; exact hs) hT
theorem prefix_at (l : Bs) (w : World) {r : Bool} (hr : decide (l.head? = some 32) = r) : Calls Tryz.prog 72 #[sv l, .string ⟨#[32]⟩] w fun e w' => e = .returned (.bool r) ∧ w = w' := by
  refine (Any.strings_HasPrefix Tryz.lays99 ⟨l.toArray⟩ ⟨#[32]⟩ w).mono ?_
  rintro e w' ⟨rfl, rfl⟩
  refine ⟨ret_bool ?_, rfl⟩
  rw [← hr]
  cases l with
  | nil => rfl
  | cons c r => rw [Bool.eq_iff_iff]; simp [Lib.hasPrefix, List.isPrefixOf]; exact eq_comm
theorem suffix_at (l : Bs) (w : World) (hs : l.length ≤ maxLen) {r : Bool} (hr : decide (l.getLast? = some 32) = r) : Calls Tryz.prog 73 #[sv l, .string ⟨#[32]⟩] w fun e w' => e = .returned (.bool r) ∧ w = w' := by
  refine (Any.strings_HasSuffix Tryz.lays100 ⟨l.toArray⟩ ⟨#[32]⟩ w (by show l.toArray.size ≤ _; rw [List.size_toArray]; unfold maxLen at hs; omega)).mono ?_
  rintro e w' ⟨rfl, rfl⟩
  refine ⟨ret_bool ?_, rfl⟩
  rw [← hr, Bool.eq_iff_iff]
  simp only [Lib.hasSuffix, List.isSuffixOf_iff_suffix, decide_eq_true_eq]
  constructor
  · rintro ⟨t, ht⟩
    have : l = t ++ [32] := ht.symm
    rw [this]; simp
  · intro h
    obtain ⟨t, rfl⟩ := List.getLast?_eq_some_iff.1 h
    exact ⟨t, rfl⟩
abbrev stpV (s : Stp) : Value := .agg #[.int .i64 s.kind, sv s.text, .int .i64 s.n]
theorem isEmpty_of (l : Bs) : (l = [] → l.isEmpty = true) ∧ (l ≠ [] → l.isEmpty = false) := by cases l <;> simp
set_option maxHeartbeats 1000000 in
theorem checkStep_any (s : Stp) {w : World} (hs : s.text.length ≤ maxLen) (hT : Tab w) {R : Int} (hR : stepErr s = R) :
    Calls Tryz.prog 65 #[stpV s] w fun e w' => e = .returned (.int .i64 R) ∧ Below w.heap.size w w' := by
  have hb0 : Below w.heap.size w (w.alloc (.cells #[.int .i64 s.kind, sv s.text, .int .i64 s.n] 72)) := (Below.refl _ _).alloc (Nat.le_refl _) _
  have HB := Lib.hid hb0
  have HT := Lib.hid (hT.below hb0)
  have HS := Lib.hid hs
  clear hT hb0 hs
  unfold stepErr at hR
  by_cases h3 : s.kind = 3
  · rw [if_pos h3] at hR
    have e3 := ibeq h3
    clear h3
    by_cases h1 : s.n < 0
    · rw [if_pos (.inl h1)] at hR
      have HR := Lib.hid hR
      clear hR
      go_enter Tryz.func65, Tryz.ntmps65
      go_wp2
      go_ret
      exact ⟨ret_int HR.out, HB.out⟩
    by_cases h2 : 16 < s.n
    · rw [if_pos (.inr (.inl h2))] at hR
      have HR := Lib.hid hR
      clear hR
      go_enter Tryz.func65, Tryz.ntmps65
      go_wp2
      go_ret
      exact ⟨ret_int HR.out, HB.out⟩
    by_cases h4 : s.text = []
    · rw [if_neg (by simp [h1, h2, h4])] at hR
      have HR := Lib.hid hR
      have e1 := (isEmpty_of s.text).1 h4
      clear hR h4
      go_enter Tryz.func65, Tryz.ntmps65
      go_wp2
      go_ret
      exact ⟨ret_int HR.out, HB.out⟩
    · rw [if_pos (.inr (.inr h4))] at hR
      have HR := Lib.hid hR
      have e1 := (isEmpty_of s.text).2 h4
      clear hR h4
      go_enter Tryz.func65, Tryz.ntmps65
      go_wp2
      go_ret
      exact ⟨ret_int HR.out, HB.out⟩
  rw [if_neg h3] at hR
  have e3 := ibne h3
  clear h3
  by_cases h12 : s.kind = 1 ∨ s.kind = 2
  · rw [if_pos h12] at hR
    have hk : (s.kind == 1) = true ∨ ((s.kind == 1) = false ∧ (s.kind == 2) = true) := by
      by_cases h : s.kind = 1
      · exact .inl (ibeq h)
      · exact .inr ⟨ibne h, ibeq (by omega)⟩
    clear h12
    by_cases hn : s.n = 0
    · obtain ⟨p, hp⟩ : ∃ p, decide (s.text.head? = some 32) = p := ⟨_, rfl⟩
      obtain ⟨q, hq⟩ : ∃ q, decide (s.text.getLast? = some 32) = q := ⟨_, rfl⟩
      obtain ⟨x, hx⟩ : ∃ x, exprErr s.text = x := ⟨_, rfl⟩
      have hR' : R = if p = true ∨ q = true then 54 else x := by
        rw [← hR, ← hp, ← hq, ← hx]; simp [hn]
      have en : (s.n != 0) = false := by simp [bne, ibeq hn]
      have HR := Lib.hid hR'
      have HP := Lib.hid hp
      have HQ := Lib.hid hq
      have HX := Lib.hid hx
      clear hR hR' hp hq hx hn
      have HBx : Hid (∀ w2, Below (w.alloc (.cells #[.int .i64 s.kind, sv s.text, .int .i64 s.n] 72)).heap.size (w.alloc (.cells #[.int .i64 s.kind, sv s.text, .int .i64 s.n] 72)) w2 → Below w.heap.size w w2) := Lib.hid (fun w2 hb2 => HB.out.trans (hb2.mono HB.out.size))
      rcases hk with h1 | ⟨h1, h2⟩
      all_goals
        cases p <;> cases q
        all_goals
          go_enter Tryz.func65, Tryz.ntmps65
          go_wp2_with (first
            | (go_at_call 72; refine (prefix_at _ _ HP.out).mono ?_; rintro e w1 ⟨rfl, rfl⟩)
            | (go_at_call 73; refine (suffix_at _ _ HS.out HQ.out).mono ?_; rintro e w1 ⟨rfl, rfl⟩)
            | (go_at_call 74; refine (expr_at HS.out HT.out HX.out).mono ?_; rintro e w2 ⟨pp, pos, rfl, hb2⟩; have HB2 := Lib.hid (HBx.out _ hb2); clear hb2))
          go_ret
          exact ⟨ret_int (by rw [HR.out]; rfl), by first | exact HB2.out | exact HB.out⟩
    · rw [if_pos (.inl hn)] at hR
      have en : (s.n != 0) = true := by simp [bne, ibne hn]
      have HR := Lib.hid hR
      clear hR hn
      rcases hk with h1 | ⟨h1, h2⟩
      all_goals
        go_enter Tryz.func65, Tryz.ntmps65
        go_wp2
        go_ret
        exact ⟨ret_int HR.out, HB.out⟩
  · rw [if_neg h12] at hR
    have HR := Lib.hid hR
    have h1 := ibne (fun h => h12 (.inl h))
    have h2 := ibne (fun h => h12 (.inr h))
    clear hR h12
    go_enter Tryz.func65, Tryz.ntmps65
    go_wp2
    go_ret
    exact ⟨ret_int HR.out, HB.out⟩
end Go.Proofs.YtfoenfipefhpoaaGreatDoor.Pl
