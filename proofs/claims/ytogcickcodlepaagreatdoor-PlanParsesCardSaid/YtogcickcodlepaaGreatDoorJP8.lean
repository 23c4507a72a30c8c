/-
  Texts joined into one file. Each part says in its own head what is proved there, and under which conditions.
-/
import Derived.Test.YtogcickcodlepaaGreatDoorJP6
import Derived.Test.YtogcickcodlepaaGreatDoorJP7
import Derived.Test.YtogcickcodlepaaGreatDoorJP1
import Derived.Shelf.Strings.Split
import Derived.Lib.ItoaLen
import Derived.Test.YtogcickcodlepaaGreatDoorJP4
import Derived.Lib.AppendStr
import Derived.Test.YtogcickcodlepaaGreatDoorJE2
set_option linter.unusedVariables false
set_option linter.unusedSimpArgs false
/-
  Parse: a text's plan, or the first error and its line. Conditions: the library's tables hold what they were laid with; a variable of bytealg is a number.
-/
namespace Go.Proofs.YtogcickcodlepaaGreatDoor.Pl
open Go.RowKit Go.Proofs.YtogcickcodlepaaGreatDoor.Ex
variable {KL : Nat × Array Value}

def ParseRet (r : PRes) (w : World) (e : Ending) : Prop :=
  match r with
  | .ok p => ∃ v, e = .returned (.tuple #[v, .int .i64 0, .int .i64 0]) ∧ PlnAt w v p
  | .err l E => e = .returned (.tuple #[.agg #[.slice none 0 0, .slice none 0 0], .int .i64 l, .int .i64 E])
theorem al_old {w : World} {k : Nat} {o : Obj} (h : w.heap[k]? = some o) (p : Obj) : (w.alloc p).heap[k]? = some o := (((Below.refl w.heap.size w).alloc (Nat.le_refl _) p).block k (lt_of_heap h)).trans h
theorem al_at {w : World} {k : Nat} (h : w.heap.size = k) (p : Obj) : (w.alloc p).heap[k]? = some p := by subst h; exact heap_alloc_new w p
/-- The three results' cells are made. -/
theorem res3_new (w : World) (vt vf : Value) (l e : Int) : Res3 (((w.alloc (.cells #[vt, vf] 25)).alloc (.cells #[.int .i64 l] 3)).alloc (.cells #[.int .i64 e] 28)) w.heap.size (w.heap.size + 1) (w.heap.size + 1 + 1) vt vf l e ∧
    Below w.heap.size w (((w.alloc (.cells #[vt, vf] 25)).alloc (.cells #[.int .i64 l] 3)).alloc (.cells #[.int .i64 e] 28)) :=
  ⟨⟨al_old (al_old (heap_alloc_new _ _) _) _, al_old (al_at (World.size_alloc _ _) _) _, al_at (by rw [World.size_alloc, World.size_alloc]) _⟩,
    (((Below.refl _ _).alloc (Nat.le_refl _) _).alloc (by rw [World.size_alloc]; omega) _).alloc (by rw [World.size_alloc, World.size_alloc]; omega) _⟩
/-- The frame's temporaries lead to the results' cells. -/
def OutsAt (T : Array Value) (r0 r1 r2 : Nat) : Prop :=
  ∀ w vt vf l e, Res3 w r0 r1 r2 vt vf l e → (results Tryz.f13 T).run Tryz.prog w = .ok (.tuple #[.agg #[vt, vf], .int .i64 l, .int .i64 e]) w
theorem outs_at (a b : Value) (r0 r1 r2 : Nat) (rest : List Value) (_ : rest.length = 38) : OutsAt (a :: b :: ptr r0 :: ptr r1 :: ptr r2 :: rest).toArray r0 r1 r2 := by
  intro w vt vf l e h
  obtain ⟨c0, c1, c2, c3, -⟩ := h.cells
  simp [results, Tryz.results13, go_sem, c0, c1, c2, c3]
theorem leave_ret {w0 w : World} {B r0 r1 r2 : Nat} {vt vf : Value} {l e : Int} {T : Array Value} {R : Ending → World → Prop} (h : Res3 w r0 r1 r2 vt vf l e) (hb : Below B w0 w) (hB : B ≤ w.heap.size) (hT : OutsAt T r0 r1 r2)
    (hR : ∀ w', Below B w0 w' → Below w.heap.size w w' → R (.returned (.tuple #[.agg #[vt, vf], .int .i64 l, .int .i64 e])) w') :
    Leaves Tryz.prog Tryz.f13 T R [{ target := .fn (.func 23) #[ptr r0, ptr r1, ptr r2], args := #[] }] .returning w := by
  refine leaves_cons (f := 23) (args := #[ptr r0, ptr r1, ptr r2]) (by simp) (by simp [go_sem]) ?_
  have h2 : Res3 w r0 r1 r2 vt vf l e := h
  refine (catch_idle (w0 := w) (B := w.heap.size) h (Below.refl _ _) (Nat.le_refl _)).mono ?_
  rintro en u' w' ⟨rfl, rfl, hb2, h3⟩
  exact ⟨_, hT _ _ _ _ _ h3, hR w' (hb.trans (hb2.mono hB)) hb2⟩
theorem leave_panic {w0 w : World} {B r0 r1 r2 line : Nat} {vt vf : Value} {l e E : Int} {T : Array Value} {R : Ending → World → Prop} (h : Res3 w r0 r1 r2 vt vf l e) (hb : Below B w0 w) (hB : B ≤ w.heap.size) (h0 : B ≤ r0) (h1 : B ≤ r1) (h2 : B ≤ r2) (hT : OutsAt T r0 r1 r2)
    (hR : ∀ w', Below B w0 w' → R (.returned (.tuple #[.agg #[.slice none 0 0, .slice none 0 0], .int .i64 line, .int .i64 E])) w') :
    Leaves Tryz.prog Tryz.f13 T R [{ target := .fn (.func 23) #[ptr r0, ptr r1, ptr r2], args := #[] }] (.panicking (faultP line E)) w := by
  refine leaves_cons (f := 23) (args := #[ptr r0, ptr r1, ptr r2]) (by simp) (by simp [go_sem]) ?_
  refine (catch_panicking h hb hB h0 h1 h2).mono ?_
  rintro en u' w' ⟨rfl, rfl, hb2, h3⟩
  exact ⟨_, hT _ _ _ _ _ h3, hR w' hb2⟩
set_option maxRecDepth 20000 in
set_option maxHeartbeats 4000000 in
theorem parse_long {w : World} (s : ByteArray) (hs : 4096 < s.size) :
    Calls Tryz.prog 13 #[.string s] w fun e w' => ParseRet (.err 0 2) w' e ∧ Below w.heap.size w w' := by
  have h1 : (4096 : Int) < (s.size : Int) := by omega
  have hmf : ∀ (fn : Fn) (first cap : Array Value) (w : World), (Instr.makeFunc fn first cap).run Tryz.prog w = .ok (.func fn first cap) w := fun _ _ _ _ => rfl
  go_enter_defers Tryz.func13, Tryz.ntmps13
  go_wp2
  obtain ⟨hr, hb⟩ := res3_new w (.slice none 0 0) (.slice none 0 0) 0 2
  exact ⟨_, (outs_at _ _ _ _ _ _ rfl) _ _ _ _ _ hr, rfl, hb⟩
theorem split_at (s : ByteArray) (w : World) (m : Int) (hs : s.size ≤ 4096) (hM : w.cell? ⟨0, 0, none⟩ = some (.int .i64 m)) {L : List Bs} (hL : linesOf s.data.toList = L) :
    Calls Tryz.prog 24 #[.string s, .string ⟨#[10]⟩] w fun e w' => e = .returned (.slice (some ⟨w.heap.size, 0, none⟩) L.length L.length) ∧ w' = w.alloc (.cells (L.map sv).toArray 9) := by
  have hcon := Any.strings_Split Tryz.lays146 info9 s ⟨#[10]⟩ m w (by omega) hM (by decide)
  change Calls Tryz.prog 24 #[.string s, .string ⟨#[10]⟩] w _ at hcon
  have hlen : Lib.countB s ⟨#[10]⟩ + 1 = L.length := by
    rw [← Lib.splitB_all ⟨#[10]⟩ (by decide) 0 _ s rfl, ← hL, ← split_lines s, List.length_map]
  have hmap : (Lib.splitB ⟨#[10]⟩ 0 (Lib.countB s ⟨#[10]⟩) s).map Value.string = L.map sv := by
    rw [← hL, ← split_lines s, List.map_map]; rfl
  rw [hlen, hmap] at hcon
  exact hcon
theorem below4 (w : World) (a b c d : Obj) : Below w.heap.size w ((((w.alloc a).alloc b).alloc c).alloc d) :=
  ((((Below.refl _ _).alloc (Nat.le_refl _) _).alloc (by simp only [World.size_alloc]; omega) _).alloc (by simp only [World.size_alloc]; omega) _).alloc (by simp only [World.size_alloc]; omega) _
theorem PS.below {w0 w : World} {p : Nat} {S : PSt} (h : PS KL w0 p S w) : Below w0.heap.size w0 w := by obtain ⟨vt, vf, va, vb, es, hx⟩ := h; exact hx.below
theorem PS.keep {w0 w : World} {p : Nat} {S : PSt} (h : PS KL w0 p S w) : KAt KL w := by obtain ⟨vt, vf, va, vb, es, hx⟩ := h; exact hx.keep
/-- The parser and the lines are made. -/
theorem ps_new (W : World) (p b : Nat) (hp : p = W.heap.size) (hb : b = W.heap.size + 1) (cs : Array Value) : PS (b, cs) W p .init ((W.alloc (.cells #[.slice none 0 0, .slice none 0 0, .slice none 0 0, .slice none 0 0, .int .i64 0] 57)).alloc (.cells cs 9)) := by
  subst hp hb
  refine ⟨.slice none 0 0, .slice none 0 0, .slice none 0 0, .slice none 0 0, [], ?_⟩
  exact {
    below := ((Below.refl _ _).alloc (Nat.le_refl _) _).alloc (by rw [World.size_alloc]; omega) _
    keep := al_at (World.size_alloc _ _) _
    hp := Nat.le_refl _
    blk := al_old (heap_alloc_new _ _) _
    flws := rfl
    rowT := World.ownsRow_nil _ _ _ _
    rowF := World.ownsRow_nil _ _ _ _
    rowA := World.ownsRow_nil _ _ _ _
    rowB := World.ownsRow_nil _ _ _ _
    apart := .inl rfl
    steps := fun q hq => by cases hq
    sapart := List.Pairwise.nil }
/-- What stops the parser is what Parse returns. -/
theorem parse_stop {w W0 w' : World} {r0 r1 r2 line : Nat} {E : Int} {T : Array Value} (hr : Res3 W0 r0 r1 r2 (.slice none 0 0) (.slice none 0 0) 0 0) (hb : Below w.heap.size w W0) (h0 : w.heap.size ≤ r0) (h1 : w.heap.size ≤ r1) (h2 : w.heap.size ≤ r2) (hw : Below W0.heap.size W0 w') (hT : OutsAt T r0 r1 r2) :
    Leaves Tryz.prog Tryz.f13 T (fun e w' => ParseRet (.err line E) w' e ∧ Below w.heap.size w w') [{ target := .fn (.func 23) #[ptr r0, ptr r1, ptr r2], args := #[] }] (.panicking (faultP line E)) w' :=
  leave_panic (hr.grow hw) (hb.trans (hw.mono hb.size)) (Nat.le_trans hb.size hw.size) h0 h1 h2 hT fun _ hb2 => ⟨rfl, hb2⟩
theorem run_drop (S : PSt) (L : List Bs) (k : Nat) (hk : k < L.length) : run S (k + 1) (L.drop k) = if S.errOf L[k] = 0 then run (S.next (k + 1) L[k]) (k + 1 + 1) (L.drop (k + 1)) else .bad (k + 1) (S.errOf L[k]) := by
  rw [List.drop_eq_getElem_cons hk]; rfl
theorem line_cell {w : World} {b k : Nat} {L : List Bs} (h : KAt (b, (L.map sv).toArray) w) (hk : k < L.length) : w.cell? ⟨b, k, none⟩ = some (sv L[k]) := by
  rw [cell_of_heap h]
  simp [hk]
theorem topsErr_where : ∀ (r e : List Top) (q : Nat × Int), topsErr e r = some q → 1 + e.length ≤ q.1 ∧ q.1 < 1 + e.length + r.length
  | [], e, q, h => by cases h
  | t :: r, e, q, h => by
    simp only [topsErr] at h
    split at h
    · have := topsErr_where r (e ++ [t]) q h
      simp at this ⊢; omega
    · injection h with h; subst h; simp
theorem flwsErr_where (ts : List Top) (all : List Flw) : ∀ (r e : List Flw) (q : Nat × Int), flwsErr ts all e r = some q → 101 + e.length ≤ q.1 ∧ q.1 < 101 + e.length + r.length
  | [], e, q, h => by cases h
  | t :: r, e, q, h => by
    simp only [flwsErr] at h
    split at h
    · have := flwsErr_where ts all r (e ++ [t]) q h
      simp at this ⊢; omega
    · injection h with h; subst h; simp
theorem check_where {p : Pln} {i : Nat} {e : Int} (h : check p = (i, e)) : i < 1000000 ∧ (101 ≤ i → i - 101 < p.flws.length) ∧ (i < 101 → 1 ≤ i → i - 1 < p.tops.length) := by
  unfold check at h
  split at h
  · injection h with h1 _; subst h1; exact ⟨by omega, fun h => by omega, fun _ h => by omega⟩
  · rename_i hb
    split at h
    · rename_i r hr
      subst h
      have := topsErr_where _ _ _ hr
      simp at this
      exact ⟨by omega, fun h => by omega, fun _ h => by omega⟩
    · split at h
      · rename_i r hr
        subst h
        have := flwsErr_where _ _ _ _ _ hr
        simp at this
        exact ⟨by omega, fun h => by omega, fun _ h => by omega⟩
      · injection h with h1 _; subst h1; exact ⟨by omega, fun h => by omega, fun _ h => by omega⟩
theorem row_put3 {w : World} {B size n r0 r1 r2 : Nat} {e : TypeId} {v : Value} {xs : List Value} (h : w.ownsRow B e size v n xs) (k0 : r0 < B) (k1 : r1 < B) (k2 : r2 < B) (a b : Value) (l E : Int) : (put3 w r0 r1 r2 a b l E).ownsRow B e size v n xs := by
  have hne : ∀ r, r < B → v.ownBlock ≠ some r := fun r hr hv => by have := (h.lt r hv).1; omega
  exact ownsRow_setCell_other (ownsRow_setCell_other (ownsRow_setCell_other (ownsRow_setCell_other h (hne _ k0) _) (hne _ k0) _) (hne _ k1) _) (hne _ k2) _
/-- The plan lies there behind the stores of the results. -/
theorem PX.pln_put {W0 w : World} {p m r0 r1 r2 : Nat} {S : PSt} {vt vf va vb : Value} {es : List FE} (h : PX KL W0 p S vt vf va vb es w) (hz : Sz S m) (k0 : r0 < W0.heap.size) (k1 : r1 < W0.heap.size) (k2 : r2 < W0.heap.size) (a b : Value) (l E : Int) :
    PlnAt (put3 w r0 r1 r2 a b l E) (.agg #[vt, vf]) ⟨S.tops, S.flws⟩ := by
  refine ⟨vt, vf, es, rfl, lst_row (row_put3 h.rowT k0 k1 k2 a b l E) (fun _ _ => rfl), ⟨lst_row (row_put3 h.rowF k0 k1 k2 a b l E) (fun _ _ => rfl), fun q hq => ?_⟩, h.flws⟩
  have hq' := h.steps q hq
  have hm : q.f ∈ S.flws := by rw [← h.flws]; exact List.mem_map_of_mem hq
  obtain ⟨-, -, h1, h2⟩ := hz.steps q.f hm
  have h4 : (4096 : Nat) ≤ maxLen := by decide
  exact ⟨⟨lst_row (row_put3 hq'.pre k0 k1 k2 a b l E) (fun _ _ => rfl), fun s hs => Nat.le_trans (h1 s hs) h4⟩, ⟨lst_row (row_put3 hq'.post k0 k1 k2 a b l E) (fun _ _ => rfl), fun s hs => Nat.le_trans (h2 s hs) h4⟩⟩
set_option maxRecDepth 20000 in
set_option maxHeartbeats 4000000 in
theorem parse_short {w : World} (hT : Tab w) {m : Int} (hM : w.cell? ⟨0, 0, none⟩ = some (.int .i64 m)) (s : ByteArray) (hs : s.size ≤ 4096) {R : PRes} (hR : parsePlan s.data.toList = R) :
    Calls Tryz.prog 13 #[.string s] w fun e w' => ParseRet R w' e ∧ Below w.heap.size w w' := by
  have h1 : ¬ (4096 : Int) < (s.size : Int) := by omega
  have hmf : ∀ (fn : Fn) (first cap : Array Value) (w : World), (Instr.makeFunc fn first cap).run Tryz.prog w = .ok (.func fn first cap) w := fun _ _ _ _ => rfl
  obtain ⟨L, hL⟩ : ∃ L, linesOf s.data.toList = L := ⟨_, rfl⟩
  obtain ⟨n, hn⟩ : ∃ n, L.length = n := ⟨_, rfl⟩
  have hpos : 0 < w.heap.size := by
    rcases Nat.lt_or_ge 0 w.heap.size with h | h
    · exact h
    · have h0 : w.heap[0]? = none := by rw [Array.getElem?_eq_none_iff]; omega
      unfold World.cell? at hM
      simp only [h0] at hM
      cases hM
  have HSP : Hid (∀ W, Below w.heap.size w W → Calls Tryz.prog 24 #[.string s, .string ⟨#[10]⟩] W fun e w' => e = .returned (.slice (some ⟨W.heap.size, 0, none⟩) n n) ∧ w' = W.alloc (.cells (L.map sv).toArray 9)) :=
    Lib.hid (fun W hW => by have := split_at s W m hs (by rw [hW.cell (p := ⟨0, 0, none⟩) hpos]; exact hM) hL; rw [hn] at this; exact this)
  obtain ⟨hll, hlc⟩ := lines_len (t := s.data.toList)
  rw [hL] at hll hlc
  have hsz : s.data.toList.length = s.size := by simp
  rw [hsz] at hll hlc
  unfold parsePlan at hR
  rw [hL, if_neg (by rw [hsz]; omega)] at hR
  have HR := Lib.hid hR
  have HLL := Lib.hid hll
  have HN := Lib.hid hn
  have HT := Lib.hid hT
  have hn2 : n ≤ 4097 := by omega
  clear hR hll hlc hn hM hT hL hpos hsz
  go_enter_defers Tryz.func13, Tryz.ntmps13
  go_wp2_with (go_at_call 24; refine (HSP.out _ (below4 _ _ _ _ _)).mono ?_; rintro e w1 ⟨rfl, rfl⟩)
  obtain ⟨hr3, hb3⟩ := res3_new w (.slice none 0 0) (.slice none 0 0) 0 0
  generalize hW0 : (((w.alloc (.cells #[.slice none 0 0, .slice none 0 0] 25)).alloc (.cells #[.int .i64 0] 3)).alloc (.cells #[.int .i64 0] 28)) = W0 at hr3 hb3 ⊢
  have hsz : W0.heap.size = w.heap.size + 1 + 1 + 1 := by rw [← hW0]; simp only [World.size_alloc]
  have hps := ps_new W0 (w.heap.size + 1 + 1 + 1) (w.heap.size + 1 + 1 + 1 + 1) hsz.symm (by rw [hsz]) (L.map sv).toArray
  have l1 : w.heap.size ≤ w.heap.size + 1 := by omega
  have l2 : w.heap.size ≤ w.heap.size + 1 + 1 := by omega
  generalize (W0.alloc (.cells #[.slice none 0 0, .slice none 0 0, .slice none 0 0, .slice none 0 0, .int .i64 0] 57)).alloc (.cells (L.map sv).toArray 9) = W2 at hps ⊢
  generalize w.heap.size + 1 + 1 + 1 + 1 = b at hps ⊢
  generalize w.heap.size + 1 + 1 + 1 = p at hps hsz ⊢
  generalize w.heap.size + 1 + 1 = r2 at hr3 l2 ⊢
  generalize w.heap.size + 1 = r1 at hr3 l1 ⊢
  obtain ⟨X, hX⟩ : ∃ X, run .init 1 L = X := ⟨_, rfl⟩
  rw [hX] at HR
  have HX := Lib.hid hX
  have HPS := Lib.hid hps
  have H3 := Lib.hid hr3
  have HB3 := Lib.hid hb3
  clear hX hps hr3 hb3 hW0 hsz HSP
  go_loopw [18] (fun i wr => ∃ (k : Nat) (S : PSt), k ≤ n ∧ i = .int .i64 k ∧ Hid (run S (k + 1) (L.drop k) = X) ∧ Hid (Sz S k) ∧ Hid (PS (b, (L.map sv).toArray) W0 p S wr)) (fun i _ => n - (intOf i).toNat)
  case atStart => exact ⟨0, .init, Nat.zero_le _, rfl, by simpa using HX, Sz.init, HPS⟩
  case round =>
    obtain ⟨k, S, hk, rfl, hr, hz, hp⟩ := hrel
    by_cases hlt : k < n
    · have hkl : k < L.length := by rw [HN.out]; exact hlt
      have hd := run_drop S L k hkl
      rw [hr.out] at hd
      have hkc := line_cell hp.out.keep hkl
      have hlen := HLL.out _ (List.getElem_mem hkl)
      generalize L[k] = l at hd hkc hlen
      have hsl : (⟨l.toArray⟩ : ByteArray).size ≤ 4096 := by show l.toArray.size ≤ 4096; rw [List.size_toArray]; omega
      have hk8 : k ≤ 80000 := by omega
      have elin : ((k : Int) + 1) = ((k + 1 : Nat) : Int) := by omega
      by_cases he : S.errOf l = 0
      · rw [if_pos he] at hd
        have HTK : Hid (Calls Tryz.prog 25 #[ptr p, .int .i64 ((k : Int) + 1), sv l] wr fun e w' => e = .returned (.tuple #[]) ∧ PS (b, (L.map sv).toArray) W0 p (S.next (k + 1) l) w') :=
          Lib.hid (by rw [elin]; exact take_ok hp.out hz.out hk8 ⟨l.toArray⟩ hsl he)
        have HZ := Lib.hid (hz.out.next (line := k + 1) (by omega) he)
        have HD := Lib.hid hd.symm
        clear hd hr he hlen hsl hp hz elin hk8
        go_wp2_with (go_at_call 25; refine HTK.out.mono ?_; rintro e w2 ⟨rfl, hp2⟩; have HP2 := Lib.hid hp2; clear hp2)
        go_roundw
        case rel => exact ⟨k + 1, _, by omega, by go_num, HD, HZ, HP2⟩
        case measure => simp [intOf]; omega
      · rw [if_neg he] at hd
        have HTK : Hid (Calls Tryz.prog 25 #[ptr p, .int .i64 ((k : Int) + 1), sv l] wr fun e w' => e = .panicked (faultP (k + 1) (S.errOf l)) ∧ PS (b, (L.map sv).toArray) W0 p S w') :=
          Lib.hid (by rw [elin]; exact take_bad hp.out hz.out hk8 ⟨l.toArray⟩ hsl rfl he)
        have HRR : Hid (R = .err (k + 1) (S.errOf l)) := Lib.hid (by rw [← HR.out, hd])
        clear hd hr he hlen hsl hp hz elin hk8
        go_wp2_with (go_at_call 25; refine HTK.out.mono ?_; rintro e w2 ⟨rfl, hp2⟩; have HP2 := Lib.hid hp2; clear hp2)
        have hRR := HRR.out
        subst hRR
        exact parse_stop H3.out HB3.out (Nat.le_refl _) l1 l2 HP2.out.below (outs_at _ _ _ _ _ _ rfl)
    · have hkn : k = n := by omega
      have hR2 := HR.out
      rw [← hr.out, hkn, ← HN.out, List.drop_length] at hR2
      simp only [run, PSt.finish] at hR2
      have hp' := hp.out
      have hr3 := H3.out.grow hp.out.below
      clear hr hkn
      by_cases hw : S.win ≠ 0
      · rw [if_pos hw] at hR2
        have HE := Lib.hid (end_bad hp.out hw)
        have HRR := Lib.hid hR2.symm
        clear hR2 hp' hr3 hw
        go_wp2_with (go_at_call 26; refine HE.out.mono ?_; rintro e w2 ⟨rfl, rfl⟩)
        have hRR := HRR.out
        subst hRR
        exact parse_stop H3.out HB3.out (Nat.le_refl _) l1 l2 hp.out.below (outs_at _ _ _ _ _ _ rfl)
      · rw [if_neg hw] at hR2
        have HE := Lib.hid (end_ok hp.out (by omega))
        obtain ⟨vt, vf, va, vb, es, hx⟩ := hp'
        obtain ⟨t1, t2, rfl⟩ := (lst_row hx.rowT (fun _ _ => rfl)).val
        obtain ⟨t3, t4, rfl⟩ := (lst_row hx.rowF (fun _ _ => rfl)).val
        have hpl := hx.pln hz.out
        obtain ⟨⟨e1, e2⟩, hc⟩ : ∃ c, check ⟨S.tops, S.flws⟩ = c := ⟨_, rfl⟩
        have hck := check_any hpl (HT.out.below (HB3.out.trans (hp.out.below.mono HB3.out.size)))
        rw [hc] at hck hR2
        obtain ⟨c0, c1, -⟩ := px_cells hx.blk
        have HC := Lib.hid hck
        have HX2 := Lib.hid hx
        have hw3 := check_where hc
        obtain ⟨n1, n2, n3⟩ := H3.out.ne
        have q0 : ¬ p = w.heap.size := by have := lt_of_heap H3.out.h0; have := hx.hp; omega
        have q1 : ¬ p = r1 := by have := lt_of_heap H3.out.h1; have := hx.hp; omega
        have q2 : ¬ p = r2 := by have := lt_of_heap H3.out.h2; have := hx.hp; omega
        have HZ := Lib.hid hz.out
        have HPL := Lib.hid hpl
        have HW3 := Lib.hid hw3
        have HR2 := Lib.hid hR2
        clear hR2 hr3 hw hck hx hpl hc hw3
        by_cases h0 : e2 = 0
        · have e0 := inebf h0
          go_wp2_with (first | (go_at_call 26; refine HE.out.mono ?_; rintro e w2 ⟨rfl, rfl⟩) | (go_at_call 9; refine HC.out.mono ?_; rintro e w3 ⟨rfl, hb3⟩; have HX3 := Lib.hid (HX2.out.grow hb3); have HP3 := Lib.hid (HPL.out.grow hb3); obtain ⟨d0, d1, -⟩ := px_cells HX3.out.blk; obtain ⟨c5, c6, c7, c8, f5, f6, f7, f8⟩ := (H3.out.grow HX3.out.below).cells; clear hb3))
          have hr := (H3.out.grow HX3.out.below).put (.slice t1 S.tops.length t2) (.slice t3 es.length t4) 0 0
          have k0 := lt_of_heap H3.out.h0
          have k1 := lt_of_heap H3.out.h1
          have k2 := lt_of_heap H3.out.h2
          have hRR := HR2.out
          rw [if_pos h0] at hRR
          subst hRR
          refine leave_ret (w0 := w) (B := w.heap.size) hr (put3_below (HB3.out.trans (HX3.out.below.mono HB3.out.size)) (Nat.le_refl _) l1 l2) ?_ (outs_at _ _ _ _ _ _ rfl) (fun w' hb1 hb2 => ⟨⟨_, rfl, (HX3.out.pln_put HZ.out k0 k1 k2 _ _ 0 0).grow hb2⟩, hb1⟩)
          have := (put3_below (HB3.out.trans (HX3.out.below.mono HB3.out.size)) (Nat.le_refl _) l1 l2 : Below w.heap.size w (put3 w3 w.heap.size r1 r2 (.slice t1 S.tops.length t2) (.slice t3 es.length t4) 0 0))
          exact this.size
        · have e0 := inebt h0
          obtain ⟨r, hr⟩ : ∃ r, S.lineOf e1 = r := ⟨_, rfl⟩
          have HLO : ∀ W, PX (b, (L.map sv).toArray) W0 p S (.slice t1 S.tops.length t2) (.slice t3 es.length t4) va vb es W → Calls Tryz.prog 27 #[ptr p, .int .i64 (e1 : Int)] W fun e w' => e = .returned (.int .i64 r) ∧ W = w' := fun W hW =>
            lineOf_at ⟨_, _, _, _, _, hW⟩ HW3.out.1 (fun h => by rw [HZ.out.fle]; exact HW3.out.2.1 h) (fun h h' => by rw [HZ.out.tle]; exact HW3.out.2.2 h h') hr
          have HLO' := Lib.hid HLO
          have hRR := HR2.out
          rw [if_neg h0, hr] at hRR
          have HRR := Lib.hid hRR
          clear HLO hr hRR
          go_wp2_with (first | (go_at_call 26; refine HE.out.mono ?_; rintro e w2 ⟨rfl, rfl⟩) | (go_at_call 9; refine HC.out.mono ?_; rintro e w3 ⟨rfl, hb3⟩; have HX3 := Lib.hid (HX2.out.grow hb3); obtain ⟨d0, d1, -⟩ := px_cells HX3.out.blk; obtain ⟨c5, c6, c7, c8, f5, f6, f7, f8⟩ := (H3.out.grow HX3.out.below).cells; clear hb3) | (go_at_call 27; refine (HLO'.out _ HX3.out).mono ?_; rintro e w4 ⟨rfl, rfl⟩))
          have hr := (H3.out.grow HX3.out.below).put (.slice none 0 0) (.slice none 0 0) r e2
          have hRR := HRR.out
          subst hRR
          refine leave_ret (w0 := w) (B := w.heap.size) hr (put3_below (HB3.out.trans (HX3.out.below.mono HB3.out.size)) (Nat.le_refl _) l1 l2) ?_ (outs_at _ _ _ _ _ _ rfl) (fun w' hb1 hb2 => ⟨rfl, hb1⟩)
          have := (put3_below (HB3.out.trans (HX3.out.below.mono HB3.out.size)) (Nat.le_refl _) l1 l2 : Below w.heap.size w (put3 w3 w.heap.size r1 r2 (.slice none 0 0) (.slice none 0 0) r e2))
          exact this.size
theorem parse_at {w : World} (hT : Tab w) {m : Int} (hM : w.cell? ⟨0, 0, none⟩ = some (.int .i64 m)) (s : ByteArray) {R : PRes} (hR : parsePlan s.data.toList = R) :
    Calls Tryz.prog 13 #[.string s] w fun e w' => ParseRet R w' e ∧ Below w.heap.size w w' := by
  by_cases h : s.size ≤ 4096
  · exact parse_short hT hM s h hR
  · have : R = .err 0 2 := by
      rw [← hR]; unfold parsePlan; rw [if_pos (by simp; omega)]
    subst this
    exact parse_long s (by omega)
end Go.Proofs.YtogcickcodlepaaGreatDoor.Pl
/-
  A plan without an error is small: its numbers, its texts, its own text. Conditions: none; nothing of a program.
-/
namespace Go.Proofs.YtogcickcodlepaaGreatDoor.Pl
open Go.RowKit Go.Proofs.YtogcickcodlepaaGreatDoor.Ex

def Num64 (i : Int) : Prop := -9223372036854775808 ≤ i ∧ i ≤ 9223372036854775807
/-- The numbers of a flow are 64-bit. -/
structure NumF (f : Flw) : Prop where
  bound : Num64 f.bound
  readers : Num64 f.readers
  keepers : Num64 f.keepers
  size : Num64 f.win.size
  slide : Num64 f.win.slide
  pre : ∀ s ∈ f.pre, Num64 s.n
  post : ∀ s ∈ f.post, Num64 s.n
theorem topsErr_none : ∀ (L e : List Top), topsErr e L = none → ∀ t ∈ L, ∃ e', topErr e' t = 0
  | [], _, _, t, ht => by cases ht
  | x :: r, e, h, t, ht => by
    simp only [topsErr] at h
    split at h
    · rename_i h0
      rcases List.mem_cons.1 ht with rfl | ht
      · exact ⟨e, h0⟩
      · exact topsErr_none r _ h t ht
    · cases h
theorem flwsErr_none (ts : List Top) (all : List Flw) : ∀ (L e : List Flw), flwsErr ts all e L = none → ∀ f ∈ L, ∃ e', flwErr ts all e' f = 0
  | [], _, _, t, ht => by cases ht
  | x :: r, e, h, t, ht => by
    simp only [flwsErr] at h
    split at h
    · rename_i h0
      rcases List.mem_cons.1 ht with rfl | ht
      · exact ⟨e, h0⟩
      · exact flwsErr_none ts all r _ h t ht
    · cases h
theorem isName_len {n : Bs} (h : isName n = true) : n.length ≤ 16 := by
  unfold isName at h
  simp only [Bool.and_eq_true, decide_eq_true_eq] at h
  exact h.2.1
theorem topErr_zero {e : List Top} {t : Top} (h : topErr e t = 0) : t.name.length ≤ 16 ∧ 1 ≤ t.parts ∧ t.parts ≤ 16 := by
  unfold topErr at h
  split at h
  · omega
  · rename_i h1
    split at h
    · omega
    · split at h
      · omega
      · rename_i h3
        exact ⟨isName_len (by simpa using h1), by omega, by omega⟩
theorem exprErr_zero {t : Bs} (h : exprErr t = 0) : t.length ≤ 200 := by
  rcases Nat.lt_or_ge 200 t.length with hl | hl
  · exfalso
    unfold exprErr parse at h
    rw [if_pos hl] at h
    exact absurd h (by decide)
  · exact hl
theorem stepErr_zero {s : Stp} (h : stepErr s = 0) : s.text.length ≤ 200 ∧ 0 ≤ s.n ∧ s.n ≤ 16 := by
  unfold stepErr at h
  split at h
  · split at h
    · omega
    · rename_i h2
      have h3 : s.text = [] := by
        rcases Classical.em (s.text = []) with h | h
        · exact h
        · exact absurd (.inr (.inr h)) h2
      exact ⟨by rw [h3]; decide, by omega, by omega⟩
  · split at h
    · split at h
      · omega
      · rename_i h2
        have h3 : s.n = 0 := by
          rcases Classical.em (s.n = 0) with h | h
          · exact h
          · exact absurd (.inl h) h2
        exact ⟨exprErr_zero h, by omega, by omega⟩
    · omega
theorem firstErr_zero {g : Stp → Int} : ∀ {L : List Stp}, firstErr g L = 0 → ∀ s ∈ L, g s = 0
  | [], _, s, hs => by cases hs
  | x :: r, h, s, hs => by
    simp only [firstErr] at h
    split at h
    · rename_i h0
      rcases List.mem_cons.1 hs with rfl | hs
      · exact h0
      · exact firstErr_zero h s hs
    · rename_i h0; exact absurd h h0
theorem postErr_zero {s : Stp} (h : postErr s = 0) : stepErr s = 0 := by
  unfold postErr at h
  split at h
  · omega
  · exact h
theorem partsOf_mem : ∀ {L : List Top} {n : Bs}, 0 < partsOf L n → ∃ t ∈ L, t.name = n
  | [], n, h => by simp [partsOf] at h
  | t :: r, n, h => by
    simp only [partsOf] at h
    split at h
    · rename_i e; exact ⟨t, by simp, e⟩
    · obtain ⟨x, hx, e⟩ := partsOf_mem h
      exact ⟨x, by simp [hx], e⟩
/-- What a flow without an error keeps to. -/
structure FSm (f : Flw) : Prop where
  num : NumF f
  name : f.name.length ≤ 16
  frm : f.frm.length ≤ 16
  dest : f.dest.length ≤ 16
  lpre : f.pre.length ≤ 8
  lpost : f.post.length ≤ 8
  tpre : ∀ s ∈ f.pre, s.text.length ≤ 200 ∧ 0 ≤ s.n ∧ s.n ≤ 16
  tpost : ∀ s ∈ f.post, s.text.length ≤ 200 ∧ 0 ≤ s.n ∧ s.n ≤ 16
theorem isWindow_num {v : Win} (h : isWindow v = true) : Num64 v.size ∧ Num64 v.slide := by
  unfold isWindow at h
  unfold Num64
  split at h
  · simp only [Bool.and_eq_true, decide_eq_true_eq] at h; omega
  · split at h
    · simp only [Bool.and_eq_true, decide_eq_true_eq] at h; omega
    · split at h
      · simp only [Bool.and_eq_true, decide_eq_true_eq] at h; omega
      · cases h
theorem flwErr_zero {ts : List Top} {all e : List Flw} {f : Flw} (ht : ∀ t ∈ ts, t.name.length ≤ 16) (h : flwErr ts all e f = 0) : FSm f := by
  unfold flwErr at h
  split at h
  · omega
  rename_i h1
  split at h
  · omega
  split at h
  · omega
  rename_i h3
  split at h
  · omega
  rename_i h4
  split at h
  · omega
  rename_i h5
  split at h
  · omega
  have hs := h
  unfold stepsErr at hs
  have hp : firstErr stepErr f.pre = 0 := by
    rcases Classical.em (firstErr stepErr f.pre = 0) with h | h
    · exact h
    · rw [if_neg h] at hs; exact absurd hs h
  rw [if_pos hp] at hs
  have hpre := fun s hs => stepErr_zero (firstErr_zero hp s hs)
  have hpost := fun s h2 => stepErr_zero (postErr_zero (firstErr_zero hs s h2))
  have e1 : areEnds ts f = true := by cases h : areEnds ts f <;> simp [h] at h3 ⊢
  have e2 : isBound all f = true := by cases h : isBound all f <;> simp [h] at h4 ⊢
  have e3 : areCounts ts f = true := by cases h : areCounts ts f <;> simp [h] at h4 ⊢
  have e4 : isWindow f.win = true := by cases h : isWindow f.win <;> simp [h] at h4 ⊢
  unfold areEnds at e1
  unfold isBound at e2
  unfold areCounts at e3
  simp only [Bool.and_eq_true, Bool.or_eq_true, decide_eq_true_eq] at e1 e2 e3
  obtain ⟨t1, m1, n1⟩ := partsOf_mem e1.1
  obtain ⟨t2, m2, n2⟩ := partsOf_mem (show 0 < partsOf ts f.dest by omega)
  obtain ⟨w1, w2⟩ := isWindow_num e4
  exact {
    num := ⟨by unfold Num64; omega, by unfold Num64; omega, by unfold Num64; omega, w1, w2, fun s hs => by have := hpre s hs; unfold Num64; omega, fun s hs => by have := hpost s hs; unfold Num64; omega⟩
    name := isName_len (by simpa using h1)
    frm := by rw [← n1]; exact ht _ m1
    dest := by rw [← n2]; exact ht _ m2
    lpre := by omega
    lpost := by omega
    tpre := hpre
    tpost := hpost }
theorem check_zero {p : Pln} (h : (check p).2 = 0) : p.tops.length ≤ 16 ∧ p.flws.length ≤ 8 ∧ (∀ t ∈ p.tops, t.name.length ≤ 16 ∧ 1 ≤ t.parts ∧ t.parts ≤ 16) ∧ ∀ f ∈ p.flws, FSm f := by
  unfold check at h
  split at h
  · cases h
  · rename_i h0
    split at h
    · rename_i r hr
      exfalso
      have : ∀ (L e : List Top) (q : Nat × Int), topsErr e L = some q → q.2 ≠ 0 := by
        intro L
        induction L with
        | nil => intro e q h; cases h
        | cons t r ih =>
          intro e q h
          simp only [topsErr] at h
          split at h
          · exact ih _ _ h
          · rename_i hn; injection h with h; subst h; exact hn
      exact this _ _ _ hr h
    · rename_i ht
      split at h
      · rename_i r hr
        exfalso
        have : ∀ (L e : List Flw) (q : Nat × Int), flwsErr p.tops p.flws e L = some q → q.2 ≠ 0 := by
          intro L
          induction L with
          | nil => intro e q h; cases h
          | cons t r ih =>
            intro e q h
            simp only [flwsErr] at h
            split at h
            · exact ih _ _ h
            · rename_i hn; injection h with h; subst h; exact hn
        exact this _ _ _ hr h
      · rename_i hf
        have h1 : ∀ t ∈ p.tops, t.name.length ≤ 16 ∧ 1 ≤ t.parts ∧ t.parts ≤ 16 := fun t m => by
          obtain ⟨e, he⟩ := topsErr_none _ _ ht t m
          exact topErr_zero he
        refine ⟨by omega, by omega, h1, fun f m => ?_⟩
        obtain ⟨e, he⟩ := flwsErr_none _ _ _ _ hf f m
        exact flwErr_zero (fun t m => (h1 t m).1) he
theorem lineB_len : ∀ ws : List Bs, (lineB ws).length ≤ (ws.map List.length).sum + ws.length + 1
  | [] => by simp [lineB]
  | [w] => by simp [lineB]
  | w :: x :: r => by
    have := lineB_len (x :: r)
    simp only [lineB, List.length_append, List.length_cons, List.map_cons, List.sum_cons] at *
    omega
theorem itoa_len (i : Int) (h : Num64 i) : (Lib.itoa i).length ≤ 21 := Lib.itoa_length_le i h.1 h.2
theorem num_small {i a b : Int} (h : a ≤ i ∧ i ≤ b) (ha : -9223372036854775808 ≤ a) (hb : b ≤ 9223372036854775807) : Num64 i := by unfold Num64; omega
theorem stepText_len {s : Stp} (h : s.text.length ≤ 200 ∧ 0 ≤ s.n ∧ s.n ≤ 16) : (stepText s).length ≤ 300 := by
  have h1 := lineB_len [wFilter, s.text]
  have h2 := lineB_len [wSet, s.text]
  have h3 := lineB_len [wKey, Lib.itoa s.n]
  have h4 := itoa_len s.n (by unfold Num64; omega)
  simp only [List.map_cons, List.map_nil, List.sum_cons, List.sum_nil, List.length_cons, List.length_nil, show wFilter.length = 6 from rfl, show wSet.length = 3 from rfl, show wKey.length = 3 from rfl] at h1 h2 h3
  unfold stepText
  split
  · omega
  · split
    · omega
    · split
      · omega
      · simp
theorem flat_len {α : Type} {g : α → Bs} {k : Nat} : ∀ (L : List α), (∀ x ∈ L, (g x).length ≤ k) → (L.flatMap g).length ≤ L.length * k
  | [], _ => by simp
  | x :: r, h => by
    have h1 := h x (by simp)
    have h2 := flat_len r (fun y hy => h y (by simp [hy]))
    simp only [List.flatMap_cons, List.length_append, List.length_cons, Nat.succ_mul]
    omega
theorem flwText_len {f : Flw} (h : FSm f) : (flwText f).length ≤ 10000 := by
  have hb : (boundWord f.bound).length ≤ 30 := by
    have := itoa_len _ h.num.bound
    unfold boundWord
    split
    · simp only [List.length_append, show wBound.length = 5 from rfl, List.length_cons, List.length_nil]; omega
    · decide
  have h1 := lineB_len [wFlow, f.name, wFrom, f.frm, wTo, f.dest, boundWord f.bound, wReaders, Lib.itoa f.readers, wKeepers, Lib.itoa f.keepers]
  have i1 := itoa_len _ h.num.readers
  have i2 := itoa_len _ h.num.keepers
  have i3 := itoa_len _ h.num.size
  have i4 := itoa_len _ h.num.slide
  have n1 := h.name
  have n2 := h.frm
  have n3 := h.dest
  simp only [List.map_cons, List.map_nil, List.sum_cons, List.sum_nil, List.length_cons, List.length_nil, show wFlow.length = 4 from rfl, show wFrom.length = 4 from rfl, show wTo.length = 2 from rfl, show wReaders.length = 7 from rfl, show wKeepers.length = 7 from rfl] at h1
  have s1 : (stepsText f.pre).length ≤ 8 * 300 := Nat.le_trans (flat_len f.pre (fun s hs => stepText_len (h.tpre s hs))) (Nat.mul_le_mul_right _ h.lpre)
  have s2 : (stepsText f.post).length ≤ 8 * 300 := Nat.le_trans (flat_len f.post (fun s hs => stepText_len (h.tpost s hs))) (Nat.mul_le_mul_right _ h.lpost)
  have w1 : (winText f.win).length ≤ 100 := by
    have a1 := lineB_len [wWindow, wTumble, Lib.itoa f.win.size]
    have a2 := lineB_len [wWindow, wSlide, Lib.itoa f.win.size, Lib.itoa f.win.slide]
    have a3 := lineB_len [wWindow, wSession, Lib.itoa f.win.size]
    simp only [List.map_cons, List.map_nil, List.sum_cons, List.sum_nil, List.length_cons, List.length_nil, show wWindow.length = 6 from rfl, show wTumble.length = 6 from rfl, show wSlide.length = 5 from rfl, show wSession.length = 7 from rfl] at a1 a2 a3
    unfold winText
    split
    · omega
    · split <;> omega
  have g1 : (lineB [wAgg, aggWord f.agg]).length ≤ 100 := by
    have a1 := lineB_len [wAgg, aggWord f.agg]
    have a2 : (aggWord f.agg).length ≤ 5 := by
      unfold aggWord
      split
      · decide
      · split
        · decide
        · split <;> decide
    simp only [List.map_cons, List.map_nil, List.sum_cons, List.sum_nil, List.length_cons, List.length_nil, show wAgg.length = 3 from rfl] at a1
    omega
  unfold flwText
  simp only [List.length_append]
  split
  · simp only [List.length_append]; omega
  · simp only [List.length_nil]; omega
theorem topText_len {t : Top} (h : t.name.length ≤ 16 ∧ 1 ≤ t.parts ∧ t.parts ≤ 16) : (topText t).length ≤ 100 := by
  have h1 := lineB_len [wTopic, t.name, Lib.itoa t.parts]
  have i1 := itoa_len t.parts (by unfold Num64; omega)
  simp only [List.map_cons, List.map_nil, List.sum_cons, List.sum_nil, List.length_cons, List.length_nil, show wTopic.length = 5 from rfl] at h1
  unfold topText
  omega
theorem planText_len {p : Pln} (h : (check p).2 = 0) : (planText p).length ≤ 100000 := by
  obtain ⟨h1, h2, h3, h4⟩ := check_zero h
  have a := flat_len (g := topText) p.tops (fun t m => topText_len (h3 t m))
  have b := flat_len (g := flwText) p.flws (fun t m => flwText_len (h4 t m))
  unfold planText
  rw [List.length_append]
  have := Nat.mul_le_mul_right 100 h1
  have := Nat.mul_le_mul_right 10000 h2
  omega
end Go.Proofs.YtogcickcodlepaaGreatDoor.Pl
/-
  A line is put behind bytes. Conditions: the words lie in a block of strings; the bytes, with the line, are fewer than 2^40.
-/
namespace Go.Proofs.YtogcickcodlepaaGreatDoor.Pl
open Go.RowKit Go.Proofs.YtogcickcodlepaaGreatDoor.Ex

def bc (l : Bs) : List Value := l.map fun b => Value.int .u8 b.toNat
theorem bc_len (l : Bs) : (bc l).length = l.length := by simp [bc]
theorem bc_append (l r : Bs) : bc (l ++ r) = bc l ++ bc r := by simp [bc]
theorem info5u : (Tryz.prog.info? 5).map (fun i => (i.zero, i.size, i.bytes)) = some (some (.int .u8 0), 1, 1) := by kernel_rfl
/-- Blocks of other elements than bytes stay. -/
def KO (w w' : World) : Prop := ∀ (k : Nat) (cs : Array Value) (t : TypeId) (z : Nat × Nat), w.heap[k]? = some (Obj.cells cs t z) → t ≠ 5 → w'.heap[k]? = some (Obj.cells cs t z)
theorem KO.refl (w : World) : KO w w := fun _ _ _ _ h _ => h
theorem KO.trans {a b c : World} (h : KO a b) (g : KO b c) : KO a c := fun k cs t z e h1 => g k cs t z (h k cs t z e h1) h1
theorem KO.of_below {w w' : World} (h : Below w.heap.size w w') : KO w w' := fun k cs t z e _ => by
  rw [h.block k (lt_of_heap e)]; exact e
theorem KO.of_grown {w w1 : World} {B n : Nat} {v : Value} {xs : List Value} (h : w.ownsRow B 5 1 v n xs) (hg : w.grownBy w1 v.ownBlock) : KO w w1 := fun k cs t z e ht => by
  rw [hg.block k (lt_of_heap e) (fun x => row_ne h e ht x.symm)]; exact e
theorem KAt.ko {KL : Nat × Array Value} {w w' : World} (h : KAt KL w) (hk : KO w w') : KAt KL w' := hk _ _ _ _ h (by decide)
/-- A call that hands back a row of the bytes r, from block B on, and leaves all below B and all blocks of other elements. -/
def GivesB (B : Nat) (w : World) (r : Bs) (e : Ending) (w' : World) : Prop :=
  ∃ v, e = .returned v ∧ w'.ownsRow B 5 1 v r.length (bc r) ∧ Below B w w' ∧ KO w w'
theorem own_word {w : World} {B k : Nat} {v : Value} {l m : Bs} (hk : k = (l ++ m).length) (h : w.ownsRow B 5 1 v k (bc l ++ Lib.strCells ⟨m.toArray⟩)) : w.ownsRow B 5 1 v (l ++ m).length (bc (l ++ m)) := by
  subst hk
  have e : bc (l ++ m) = bc l ++ Lib.strCells ⟨m.toArray⟩ := by rw [bc_append]; rfl
  rw [e]; exact h
theorem own_byte {w : World} {B : Nat} {v : Value} {l : Bs} {c : UInt8} {i : Int} (hi : i = (c.toNat : Int)) (h : w.ownsRow B 5 1 v (l.length + 1) (bc l ++ [.int .u8 i])) : w.ownsRow B 5 1 v (l ++ [c]).length (bc (l ++ [c])) := by
  subst hi
  have e : bc (l ++ [c]) = bc l ++ [.int .u8 (c.toNat : Int)] := by rw [bc_append]; rfl
  rw [e, show (l ++ [c]).length = l.length + 1 by simp]; exact h
/-- What is left of a line ahead of word k. -/
def lineT (k : Nat) (ws : List Bs) : Bs := if k = 0 then lineB ws else match ws with | [] => [10] | w :: r => 32 :: lineB (w :: r)
theorem lineT_drop (ws : List Bs) (k : Nat) (hk : k < ws.length) : lineT k (ws.drop k) = (if k = 0 then [] else [32]) ++ (ws[k] ++ lineT (k + 1) (ws.drop (k + 1))) := by
  have h1 : ∀ w r, lineB (w :: r) = w ++ lineT (k + 1) r := fun w r => by
    cases r with
    | nil => rfl
    | cons a b => simp [lineB, lineT]
  rw [List.drop_eq_getElem_cons hk]
  by_cases h0 : k = 0
  · simp only [lineT, if_pos h0, List.nil_append]
    rw [h1]; simp [lineT]
  · simp only [lineT, if_neg h0]
    rw [h1]; simp [lineT]
theorem word_cell {w : World} {b k : Nat} {L : List Bs} (h : KAt (b, (L.map sv).toArray) w) (hk : k < L.length) : w.cell? ⟨b, k, none⟩ = some (sv L[k]) := by
  rw [cell_of_heap h]
  simp [hk]
set_option maxRecDepth 20000 in
set_option maxHeartbeats 1000000 in
theorem appendLine_at {v : Value} {l : Bs} {w : World} {B b n : Nat} {ws : List Bs} (hn : ws.length = n) (hn2 : n ≤ 1000) (h : w.ownsRow B 5 1 v l.length (bc l)) (hB : B ≤ w.heap.size) (hk : KAt (b, (ws.map sv).toArray) w) {r : Bs} (hr : l ++ lineB ws = r) (hs : r.length ≤ 1099511627776) :
    Calls Tryz.prog 58 #[v, .slice (some ⟨b, 0, none⟩) n n] w (GivesB B w r) := by
  obtain ⟨i0, hi, hz0, hz1, hz2⟩ := info_parts info5u
  have HN := Lib.hid hn
  have HS := Lib.hid hs
  have H0 : Hid (l ++ lineT 0 (ws.drop 0) = r) := Lib.hid (by simpa [lineT] using hr)
  clear hn hs hr
  go_enter Tryz.func58, Tryz.ntmps58
  go_wp2
  go_loopw [0, 9] (fun v z wr => ∃ (k : Nat) (acc : Bs), k ≤ n ∧ z = .int .i64 k ∧ Hid (acc ++ lineT k (ws.drop k) = r) ∧ wr.ownsRow B 5 1 v acc.length (bc acc) ∧ Hid (Below B w wr) ∧ Hid (KO w wr)) (fun _ z _ => n - (intOf z).toNat)
  case atStart => exact ⟨0, l, Nat.zero_le _, rfl, H0, h, Lib.hid (Below.refl _ _), Lib.hid (KO.refl _)⟩
  case round =>
    obtain ⟨k, acc, hkn, rfl, hr, hown, hbel, hko⟩ := hrel
    have hsz : acc.length ≤ 1099511627776 := by
      have := congrArg List.length hr.out
      have := HS.out
      simp only [List.length_append] at *
      omega
    by_cases hlt : k < n
    · have hkl : k < ws.length := by rw [HN.out]; exact hlt
      have hd := lineT_drop ws k hkl
      have hc := word_cell (hk.ko hko.out) hkl
      obtain ⟨x, hx⟩ : ∃ x, ws[k] = x := ⟨_, rfl⟩
      rw [hx] at hd hc
      have hBr : B ≤ wr.heap.size := Nat.le_trans hB hbel.out.size
      have hsz2 : acc.length + 1 + x.length ≤ 1099511627777 := by
        have h1 := congrArg List.length hr.out
        have := HS.out
        rw [hd] at h1
        simp only [List.length_append] at h1
        omega
      have hxs : (⟨x.toArray⟩ : ByteArray).size = x.length := by show x.toArray.size = _; exact List.size_toArray
      by_cases h0 : k = 0
      · subst h0
        have hr2 : Hid ((acc ++ x) ++ lineT (0 + 1) (ws.drop (0 + 1)) = r) := Lib.hid (by rw [← hr.out, hd]; simp)
        have HSZ := Lib.hid (And.intro hsz2 hxs)
        clear hr hd hsz hsz2 hxs hx
        go_wp2_with (at_builtin; refine Lib.wpList_append_own_string _ rfl _ _ 67 9 rfl B 5 i0 Tryz.underlying67 Tryz.underlying9 hi hz0 hz1 hz2 _ _ _ rfl hown ⟨x.toArray⟩ rfl ?_ ?_ ?_ ?_)
        case refine_1 => obtain ⟨q1, q2⟩ := HSZ.out; unfold maxLen; omega
        case refine_2 => obtain ⟨q1, q2⟩ := HSZ.out; omega
        case refine_3 => omega
        intro v' w' h3 hg _
        have R1 := Lib.hid (own_word (by simp [ByteArray.size] <;> omega) h3)
        have R2 : Hid (Below B w w') := Lib.hid (hbel.out.grown hg hBr (fun g hg => (hown.lt g hg).1))
        have R3 : Hid (KO w w') := Lib.hid (hko.out.trans (KO.of_grown hown hg))
        clear h3 hg hown hbel hko hc
        go_wp2_with fail
        go_roundw
        case rel => exact ⟨0 + 1, acc ++ x, by omega, by go_num, hr2, R1.out, R2, R3⟩
        case measure => simp [intOf]; omega
      · have hgt : (0 : Int) < (k : Int) := by omega
        have hr2 : Hid (((acc ++ [32]) ++ x) ++ lineT (k + 1) (ws.drop (k + 1)) = r) := Lib.hid (by rw [← hr.out, hd, if_neg h0]; simp)
        have HSZ := Lib.hid (And.intro hsz2 hxs)
        have HX := Lib.hid hx
        clear hr hd hsz hsz2 hxs h0 hx
        go_wp2_with (at_builtin; refine wpList_append_own _ rfl _ _ 67 rfl B 5 i0 (.int .u8 0) 1 1 Tryz.underlying67 hi hz0 hz1 hz2 rfl (by decide) _ _ _ rfl (hown.alloc _) ⟨wr.heap.size, 0, none⟩ 1 1 [.int .u8 32] rfl rfl ?c1 ?c2 ?c3 ?c4 ?c5 ?_)
        case c1 => exact (cell_one_new _ _ _)
        case c2 => intro u hu; simp at hu; subst hu; rfl
        case c3 => obtain ⟨q1, q2⟩ := HSZ.out; unfold maxLen; omega
        case c4 => obtain ⟨q1, q2⟩ := HSZ.out; omega
        case c5 => simp; omega
        intro v1 w1 hown1 hg1 _
        have own2 := own_byte (c := 32) rfl hown1
        have B1 : Hid (Below B w w1) := Lib.hid ((hbel.out.alloc hBr _).grown hg1 (by have := hbel.out.size; simp; omega) (fun g hg => (hown.lt g hg).1))
        have K1 : Hid (KO w w1) := Lib.hid ((hko.out.trans (KO.of_below ((Below.refl _ _).alloc (Nat.le_refl _) _))).trans (KO.of_grown (hown.alloc _) hg1))
        have hc1 := word_cell (L := ws) (hk.ko K1.out) hkl
        rw [HX.out] at hc1
        have hB1 : B ≤ w1.heap.size := Nat.le_trans hB B1.out.size
        clear hown1 hg1 hown hbel hko hc
        go_wp2_with (at_builtin; refine Lib.wpList_append_own_string _ rfl _ _ 67 9 rfl B 5 i0 Tryz.underlying67 Tryz.underlying9 hi hz0 hz1 hz2 _ _ _ rfl own2 ⟨x.toArray⟩ rfl ?_ ?_ ?_ ?_)
        case refine_1 => obtain ⟨q1, q2⟩ := HSZ.out; simp only [List.length_append, List.length_singleton]; unfold maxLen; omega
        case refine_2 => obtain ⟨q1, q2⟩ := HSZ.out; simp only [List.length_append, List.length_singleton]; omega
        case refine_3 => omega
        intro v' w' h3 hg _
        have R1 := Lib.hid (own_word (by simp [ByteArray.size] <;> omega) h3)
        have R2 : Hid (Below B w w') := Lib.hid (B1.out.grown hg hB1 (fun g hg => (own2.lt g hg).1))
        have R3 : Hid (KO w w') := Lib.hid (K1.out.trans (KO.of_grown own2 hg))
        clear h3 hg own2 hc1
        go_wp2_with fail
        go_roundw
        case rel => exact ⟨k + 1, (acc ++ [32]) ++ x, by omega, by go_num, hr2, R1.out, R2, R3⟩
        case measure => simp [intOf]; omega
    · have hkn2 : k = n := by omega
      have hr2 : Hid (acc ++ [10] = r) := Lib.hid (by rw [← hr.out, hkn2, ← HN.out, List.drop_length]; unfold lineT; split <;> rfl)
      have HSZ := Lib.hid hsz
      have hBr : B ≤ wr.heap.size := Nat.le_trans hB hbel.out.size
      clear hr hsz
      go_wp2_with (at_builtin; refine wpList_append_own _ rfl _ _ 67 rfl B 5 i0 (.int .u8 0) 1 1 Tryz.underlying67 hi hz0 hz1 hz2 rfl (by decide) _ _ _ rfl (hown.alloc _) ⟨wr.heap.size, 0, none⟩ 1 1 [.int .u8 10] rfl rfl ?d1 ?d2 ?d3 ?d4 ?d5 ?_)
      case d1 => exact (cell_one_new _ _ _)
      case d2 => intro u hu; simp at hu; subst hu; rfl
      case d3 => have := HSZ.out; unfold maxLen; omega
      case d4 => have := HSZ.out; omega
      case d5 => simp; omega
      intro v1 w1 hown1 hg1 _
      have own2 := own_byte (c := 10) rfl hown1
      have B1 : Hid (Below B w w1) := Lib.hid ((hbel.out.alloc hBr _).grown hg1 (by have := hbel.out.size; simp; omega) (fun g hg => (hown.lt g hg).1))
      have K1 : Hid (KO w w1) := Lib.hid ((hko.out.trans (KO.of_below ((Below.refl _ _).alloc (Nat.le_refl _) _))).trans (KO.of_grown (hown.alloc _) hg1))
      clear hown1 hg1 hown hbel hko
      go_wp2_with fail
      go_ret
      refine ⟨v1, rfl, ?_, B1.out, K1.out⟩
      rw [← hr2.out]
      exact own2
end Go.Proofs.YtogcickcodlepaaGreatDoor.Pl
/-
  The lines of a topic, of steps, of a window, of a flow are put behind bytes. Conditions: the bytes, with the lines, are fewer than 2^40; the numbers are 64-bit.
-/
namespace Go.Proofs.YtogcickcodlepaaGreatDoor.Pl
open Go.RowKit Go.Proofs.YtogcickcodlepaaGreatDoor.Ex

theorem GivesB.from {B : Nat} {w0 w1 w' : World} {r : Bs} {e : Ending} (h : GivesB B w1 r e w') (hb : Below B w0 w1) (hk : KO w0 w1) : GivesB B w0 r e w' := by
  obtain ⟨v, h1, h2, h3, h4⟩ := h
  exact ⟨v, h1, h2, hb.trans h3, hk.trans h4⟩
theorem line_new {B : Nat} {w0 w1 : World} {v : Value} {l : Bs} (h : w0.ownsRow B 5 1 v l.length (bc l)) (hB : B ≤ w0.heap.size) (hb : Below w0.heap.size w0 w1) {b : Nat} (hbb : w1.heap.size = b) (ws : List Bs) {n : Nat} (hn : ws.length = n) (hn2 : n ≤ 1000) {r : Bs} (hr : l ++ lineB ws = r) (hs : r.length ≤ 1099511627776) :
    Calls Tryz.prog 58 #[v, .slice (some ⟨b, 0, none⟩) n n] (w1.alloc (.cells (ws.map sv).toArray 9)) (GivesB B w0 r) := by
  subst hbb
  have hb2 : Below w0.heap.size w0 (w1.alloc (.cells (ws.map sv).toArray 9)) := hb.alloc hb.size _
  exact (appendLine_at hn hn2 (ownsRow_below h hb2) (Nat.le_trans hB hb2.size) (heap_alloc_new w1 _) hr hs).mono fun _ _ hg => hg.from (hb2.mono hB) (KO.of_below hb2)
theorem aggWord_at (a : Int) (w : World) {r : Bs} (hr : aggWord a = r) : Calls Tryz.prog 62 #[.int .i64 a] w fun e w' => e = .returned (sv r) ∧ w = w' := by
  subst hr
  unfold aggWord
  by_cases h1 : a = 1
  · rw [if_pos h1]
    go_enter Tryz.func62, Tryz.ntmps62
    go_wp2
    go_ret
    exact ⟨rfl, rfl⟩
  rw [if_neg h1]
  by_cases h2 : a = 2
  · rw [if_pos h2]
    go_enter Tryz.func62, Tryz.ntmps62
    go_wp2
    go_ret
    exact ⟨rfl, rfl⟩
  rw [if_neg h2]
  by_cases h3 : a = 3
  · rw [if_pos h3]
    go_enter Tryz.func62, Tryz.ntmps62
    go_wp2
    go_ret
    exact ⟨rfl, rfl⟩
  · rw [if_neg h3]
    go_enter Tryz.func62, Tryz.ntmps62
    go_wp2
    go_ret
    exact ⟨rfl, rfl⟩
theorem tbox {w : World} {t : Top} {X : World} (hb : Below (w.alloc (.cells #[sv t.name, .int .i64 t.parts] 47)).heap.size (w.alloc (.cells #[sv t.name, .int .i64 t.parts] 47)) X) :
    X.cell? ⟨w.heap.size, 0, none⟩ = some (sv t.name) ∧ X.cell? ⟨w.heap.size, 1, none⟩ = some (.int .i64 t.parts) := by
  have h : X.heap[w.heap.size]? = some (.cells #[sv t.name, .int .i64 t.parts] 47 (0, 0)) := (hb.block _ (by simp)).trans (heap_alloc_new w _)
  exact ⟨by rw [cell_of_heap h]; rfl, by rw [cell_of_heap h]; rfl⟩
set_option maxRecDepth 20000 in
set_option maxHeartbeats 1000000 in
theorem appendTopic_at {v : Value} {l : Bs} {w : World} {B : Nat} {t : Top} (h : w.ownsRow B 5 1 v l.length (bc l)) (hB : B ≤ w.heap.size) (hT : Tab w) (p0 : -9223372036854775808 ≤ t.parts) (p1 : t.parts ≤ 9223372036854775807) {r : Bs} (hr : l ++ topText t = r) (hs : r.length ≤ 1099511627776) :
    Calls Tryz.prog 31 #[v, .agg #[sv t.name, .int .i64 t.parts]] w (GivesB B w r) := by
  have hb0 : Below w.heap.size w (w.alloc (.cells #[sv t.name, .int .i64 t.parts] 47)) := (Below.refl _ _).alloc (Nat.le_refl _) _
  have HB0 := Lib.hid hb0
  have HT := Lib.hid (hT.below hb0.drew)
  have HO := Lib.hid h
  have HR := Lib.hid hr
  have HS := Lib.hid hs
  obtain ⟨x, hx⟩ : ∃ x, Lib.itoa t.parts = x := ⟨_, rfl⟩
  have HX := Lib.hid hx
  clear hb0 hT h hr hs hx
  go_enter Tryz.func31, Tryz.ntmps31
  go_upto_region 1 with fail
  go_region_law (go_simp; (first
    | (go_at_call 59; refine (itoa_any p0 p1 _ HT.out rfl).mono ?_; rintro e w1 ⟨rfl, hb1⟩; rw [HX.out]; have HB1 := Lib.hid hb1; obtain ⟨d0, d1⟩ := tbox ((Below.refl _ _).drew.trans hb1); clear hb1)
    | (go_at_call 58; refine (line_new HO.out hB ((HB0.out.drew).trans (HB1.out.mono HB0.out.drew.size)) rfl [wTopic, t.name, x] rfl (by simp) (by rw [← HR.out, ← HX.out]; rfl) HS.out).mono ?_; rintro e w2 ⟨v2, rfl, ho2, hb2, hk2⟩; have HG := Lib.hid (And.intro ho2 (And.intro hb2 hk2)); clear ho2 hb2 hk2)))
  all_goals go_wp2_with fail
  all_goals go_ret
  all_goals exact ⟨v2, rfl, HG.out.1, HG.out.2.1, HG.out.2.2⟩
theorem sbox {w X : World} {s : Stp} (hb : Below (w.alloc (.cells #[.int .i64 s.kind, sv s.text, .int .i64 s.n] 50)).heap.size (w.alloc (.cells #[.int .i64 s.kind, sv s.text, .int .i64 s.n] 50)) X) :
    X.cell? ⟨w.heap.size, 0, none⟩ = some (.int .i64 s.kind) ∧ X.cell? ⟨w.heap.size, 1, none⟩ = some (sv s.text) ∧ X.cell? ⟨w.heap.size, 2, none⟩ = some (.int .i64 s.n) := by
  have h : X.heap[w.heap.size]? = some (.cells #[.int .i64 s.kind, sv s.text, .int .i64 s.n] 50 (0, 0)) := (hb.block _ (by simp)).trans (heap_alloc_new w _)
  exact ⟨by rw [cell_of_heap h]; rfl, by rw [cell_of_heap h]; rfl, by rw [cell_of_heap h]; rfl⟩
theorem steps_drop (L : List Stp) (k : Nat) (hk : k < L.length) : stepsText (L.drop k) = stepText L[k] ++ stepsText (L.drop (k + 1)) := by
  rw [List.drop_eq_getElem_cons hk]; rfl
set_option maxRecDepth 20000 in
set_option maxHeartbeats 1000000 in
theorem appendSteps_at {w0 : World} {v u : Value} {l : Bs} {w : World} {B : Nat} {L : List Stp} (h : w.ownsRow B 5 1 v l.length (bc l)) (hB : B ≤ w.heap.size) (hb0 : Below w0.heap.size w0 w) (hB0 : w0.heap.size ≤ B) (hT : Tab w0) (hL : StpsAt w0 u L) (hN : ∀ s ∈ L, Num64 s.n) {r : Bs} (hr : l ++ stepsText L = r) (hs : r.length ≤ 1099511627776) :
    Calls Tryz.prog 60 #[v, u] w (GivesB B w r) := by
  obtain ⟨a, c, rfl⟩ := hL.1.val
  obtain ⟨n, hn⟩ : ∃ n, L.length = n := ⟨_, rfl⟩
  obtain ⟨-, -, k2, -⟩ := hL.1.len
  rw [hn] at hL k2 ⊢
  have q2 : n ≤ 9223372036854775807 := by unfold maxLen at k2; omega
  have HN := Lib.hid hn
  have HS := Lib.hid hs
  have HL := Lib.hid hL
  have HT := Lib.hid hT
  have HNum := Lib.hid hN
  have HB0 := Lib.hid (And.intro hb0 hB0)
  have H0 : Hid (l ++ stepsText (L.drop 0) = r) := Lib.hid (by simpa using hr)
  clear hn hs hL hT hN hr hb0 hB0 k2
  go_enter Tryz.func60, Tryz.ntmps60
  go_wp2
  go_loopw [0, 6, 9] (fun v _ z wr => ∃ (k : Nat) (acc : Bs), k ≤ n ∧ z = .int .i64 k ∧ Hid (acc ++ stepsText (L.drop k) = r) ∧ Hid (wr.ownsRow B 5 1 v acc.length (bc acc)) ∧ Hid (Below B w wr) ∧ Hid (KO w wr)) (fun _ _ z _ => n - (intOf z).toNat)
  case atStart => exact ⟨0, l, Nat.zero_le _, rfl, H0, Lib.hid h, Lib.hid (Below.refl _ _), Lib.hid (KO.refl _)⟩
  case round =>
    clear h
    obtain ⟨k, acc, hkn, rfl, hr, hown, hbel, hko⟩ := hrel
    by_cases hlt : k < n
    · have hkl : k < L.length := by rw [HN.out]; exact hlt
      have hd := steps_drop L k hkl
      have hBr : B ≤ wr.heap.size := Nat.le_trans hB hbel.out.size
      have hbw : Below w0.heap.size w0 wr := HB0.out.1.trans (hbel.out.mono HB0.out.2)
      obtain ⟨b, o, rfl, hbl, c0, c1, c2⟩ := (HL.out.grow hbw).cells hkl
      have hNum := HNum.out _ (mem_at hkl)
      obtain ⟨⟨kd, tx, nn⟩, hs⟩ : ∃ s, L[k] = s := ⟨_, rfl⟩
      rw [hs] at hd hNum c0 c1 c2
      dsimp only at hNum c0 c1 c2
      clear hs
      have hr2 : (acc ++ stepText ⟨kd, tx, nn⟩) ++ stepsText (L.drop (k + 1)) = r := by rw [← hr.out, hd]; simp
      have hsz : (acc ++ stepText ⟨kd, tx, nn⟩).length ≤ 1099511627776 := by
        have h1 := congrArg List.length hr2
        have := HS.out
        rw [List.length_append] at h1
        omega
      obtain ⟨m, hm⟩ : ∃ m, acc ++ stepText ⟨kd, tx, nn⟩ = m := ⟨_, rfl⟩
      rw [hm] at hr2 hsz
      have R2 := Lib.hid hr2
      have SZ := Lib.hid hsz
      have HM := Lib.hid hm
      have HNu := Lib.hid hNum
      have hbn : Below wr.heap.size wr (wr.alloc (.cells #[.int .i64 kd, sv tx, .int .i64 nn] 50)) := (Below.refl _ _).alloc (Nat.le_refl _) _
      have HBN := Lib.hid hbn
      have HTN := Lib.hid ((HT.out.below hbw).below hbn)
      have g0 : (0 : Int) ≤ (k : Int) := by omega
      have g1 : (k : Int) < (n : Int) := by omega
      clear hd hr hNum hr2 hsz hm hbw hbn hbl hkl
      by_cases k1 : kd = 1
      · subst k1
        have HM2 : Hid (acc ++ lineB [wFilter, tx] = m) := Lib.hid (by rw [← HM.out]; rfl)
        go_wp2_with (go_at_call 58; refine (line_new hown.out hBr HBN.out (by simp) [wFilter, tx] rfl (by simp) HM2.out SZ.out).mono ?_; rintro e w2 ⟨v2, rfl, ho2, hb2, hk2⟩; have HG := Lib.hid (And.intro ho2 (And.intro hb2 hk2)); clear ho2 hb2 hk2)
        go_roundw
        case rel => exact ⟨k + 1, m, by omega, by go_num, R2, Lib.hid HG.out.1, Lib.hid (hbel.out.trans HG.out.2.1), Lib.hid (hko.out.trans HG.out.2.2)⟩
        case measure => simp [intOf]; omega
      have f1 := ibne k1
      by_cases k2 : kd = 2
      · subst k2
        have HM2 : Hid (acc ++ lineB [wSet, tx] = m) := Lib.hid (by rw [← HM.out]; rfl)
        go_wp2_with (go_at_call 58; refine (line_new hown.out hBr HBN.out (by simp) [wSet, tx] rfl (by simp) HM2.out SZ.out).mono ?_; rintro e w2 ⟨v2, rfl, ho2, hb2, hk2⟩; have HG := Lib.hid (And.intro ho2 (And.intro hb2 hk2)); clear ho2 hb2 hk2)
        go_roundw
        case rel => exact ⟨k + 1, m, by omega, by go_num, R2, Lib.hid HG.out.1, Lib.hid (hbel.out.trans HG.out.2.1), Lib.hid (hko.out.trans HG.out.2.2)⟩
        case measure => simp [intOf]; omega
      have f2 := ibne k2
      by_cases k3 : kd = 3
      · subst k3
        obtain ⟨x, hx⟩ : ∃ x, Lib.itoa nn = x := ⟨_, rfl⟩
        have HX := Lib.hid hx
        clear hx
        have HM2 : Hid (acc ++ lineB [wKey, x] = m) := Lib.hid (by rw [← HM.out]; rw [← HX.out]; rfl)
        go_wp2_with (first
          | (go_at_call 59; refine (itoa_any HNu.out.1 HNu.out.2 _ HTN.out rfl).mono ?_; rintro e w1 ⟨rfl, hb1⟩; rw [HX.out]; have HB1 := Lib.hid hb1; clear hb1)
          | (go_at_call 58; refine (line_new hown.out hBr (HBN.out.trans (HB1.out.mono HBN.out.size)) rfl [wKey, x] rfl (by simp) HM2.out SZ.out).mono ?_; rintro e w2 ⟨v2, rfl, ho2, hb2, hk2⟩; have HG := Lib.hid (And.intro ho2 (And.intro hb2 hk2)); clear ho2 hb2 hk2))
        go_roundw
        case rel => exact ⟨k + 1, m, by omega, by go_num, R2, Lib.hid HG.out.1, Lib.hid (hbel.out.trans HG.out.2.1), Lib.hid (hko.out.trans HG.out.2.2)⟩
        case measure => simp [intOf]; omega
      · have f3 := ibne k3
        have HM2 : Hid (acc = m) := Lib.hid (by rw [← HM.out]; unfold stepText; rw [if_neg k1, if_neg k2, if_neg k3]; simp)
        go_wp2
        go_roundw
        case rel => exact ⟨k + 1, acc, by omega, by go_num, by rw [HM2.out]; exact R2, Lib.hid (ownsRow_below hown.out HBN.out), Lib.hid (hbel.out.trans (HBN.out.mono hBr)), Lib.hid (hko.out.trans (KO.of_below HBN.out))⟩
        case measure => simp [intOf]; omega
    · have hkn2 : k = n := by omega
      have hr2 : Hid (acc = r) := Lib.hid (by rw [← hr.out, hkn2, ← HN.out, List.drop_length]; simp [stepsText])
      clear hr
      go_wp2
      go_ret
      refine ⟨_, rfl, ?_, hbel.out, hko.out⟩
      rw [← hr2.out]
      exact hown.out
end Go.Proofs.YtogcickcodlepaaGreatDoor.Pl
