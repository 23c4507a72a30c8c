/-
  A slice of operations that came in; both journals and both disks as one bundle. Conditions: none but those that each theorem names.
-/
import Derived.Test.YtkiombbdddbkfaaJBoth
import Derived.Deep.Slices
import Derived.Deep.Fields
import Derived.ChangeSame
namespace Go.Proofs.Ytkiombbdddbkfaa.Jn
open Go.RowKit Go.Proofs.Ytkiombbdddbkfaa.Pk Go.Proofs.Ytkiombbdddbkfaa.Dk
set_option linter.unusedVariables false

/-- Operation i of a slice of operations. -/
structure OpIn (w : World) (b o : Nat) (kind n keep : Int) (A : Option Addr) (m c : Nat) (l : List UInt8) : Prop where
  c0 : w.cell? ⟨b, o, none⟩ = some (.int .i64 kind)
  c1 : w.cell? ⟨b, o + 1, none⟩ = some (.slice A m c)
  c2 : w.cell? ⟨b, o + 2, none⟩ = some (.int .i64 n)
  c3 : w.cell? ⟨b, o + 3, none⟩ = some (.int .i64 keep)
  len : l.length = m
  max : m ≤ maxLen
  lies : Lies w w.heap.size A l
  n1 : -9223372036854775808 ≤ n
  n2 : n ≤ 9223372036854775807
  k1 : -9223372036854775808 ≤ keep
  k2 : keep ≤ 9223372036854775807
def Ops (w : World) (a : Option Addr) (len : Nat) : Prop :=
  len ≤ maxLen ∧ ∀ i, i < len → ∃ b o kind n keep A m c l, a = some ⟨b, o, none⟩ ∧ OpIn w b (o + i * 4) kind n keep A m c l
theorem ops_of {H : Type} {enc : TypeId × Value → H} {w : World} {base fuel : Nat} {held : Bool} {a : Option Addr} {len cap : Nat} {x : DataW H × List MemPlace}
    (h : DataW.trod enc Try.prog w base (fun _ => true) held fuel 22 [.slice a len cap] = some x) : Ops w a len := by
  have h5 : Try.prog.cellsOf 25 = 4 := by kernel_rfl
  rcases Go.Deep.open_slice Try.underlying22 h with ⟨hcs, _⟩ | ⟨ad, l, c, m, nf, D, Pl, hcs, _, hl, hm, hmm, hx, hi⟩
  · simp at hcs
    obtain ⟨rfl, rfl, rfl⟩ := hcs
    exact ⟨Nat.zero_le _, fun i hi => by omega⟩
  · simp at hcs
    obtain ⟨rfl, rfl, rfl⟩ := hcs
    simp at hmm
    subst hmm
    refine ⟨by omega, fun i hi' => ?_⟩
    obtain ⟨cs, hc, ht⟩ := hi i (by omega)
    rw [h5] at hc
    obtain ⟨ys, n', _, hy, hlen, hyl, hf⟩ := DataW.trod_struct Try.underlying25 ht
    obtain ⟨_, hcl, hat⟩ := World.cells?_some hc
    have e3 : Try.prog.cellsOf 3 = 1 := by kernel_rfl
    have e23 : Try.prog.cellsOf 23 = 1 := by kernel_rfl
    match cs, hcl, ys, hyl with
    | [v0, v1, v2, v3], _, [y0, y1, y2, y3], _ =>
      have f0 : DataW.trod enc Try.prog w base (fun _ => true) held n' 3 [v0] = some y0 := by have := hf 0 _ rfl; simpa [e3] using this
      have f1 : DataW.trod enc Try.prog w base (fun _ => true) held n' 23 [v1] = some y1 := by have := hf 1 _ rfl; simpa [e23] using this
      have f2 : DataW.trod enc Try.prog w base (fun _ => true) held n' 3 [v2] = some y2 := by have := hf 2 _ rfl; simpa [e3] using this
      have f3 : DataW.trod enc Try.prog w base (fun _ => true) held n' 3 [v3] = some y3 := by have := hf 3 _ rfl; simpa [e3] using this
      obtain ⟨kind, q0, -, -⟩ := DataW.trod_int Try.underlying3 f0
      obtain ⟨A, mm, c, l, rfl, hl1, hl2, hl3⟩ := bytes_val f1
      obtain ⟨n, q2, -, w2⟩ := DataW.trod_int Try.underlying3 f2
      obtain ⟨keep, q3, -, w3⟩ := DataW.trod_int Try.underlying3 f3
      simp only [List.cons.injEq, and_true] at q0 q2 q3
      subst q0 q2 q3
      have c0 := hat 0 (by omega)
      have c1 := hat 1 (by omega)
      have c2 := hat 2 (by omega)
      have c3 := hat 3 (by omega)
      rw [add_add] at c0 c1 c2 c3
      obtain ⟨b, o, sp⟩ := ad
      have hsp : sp = none := by
        obtain ⟨cs0, hc0, -⟩ := hi 0 (by omega)
        rw [h5] at hc0
        obtain ⟨_, hcl0, hat0⟩ := World.cells?_some hc0
        have h0 := hat0 0 (by omega)
        rw [List.getElem?_eq_getElem (by omega)] at h0
        simpa [Addr.add] using World.cell?_spot h0
      subst hsp
      rw [Addr.add_lit] at c0 c1 c2 c3
      obtain ⟨n1, n2⟩ := bounds_i64 w2
      obtain ⟨k1, k2⟩ := bounds_i64 w3
      exact ⟨b, o, kind, n, keep, A, mm, c, l, rfl, c0, c1, c2, c3, hl1, hl2, hl3, n1, n2, k1, k2⟩

/-- An operation as it lies in memory. -/
def OpAt (w : World) (x : Nat) (kind n keep : Int) (A : Option Addr) (m c : Nat) : Prop := w.heap[x]? = some (.cells #[.int .i64 kind, .slice A m c, .int .i64 n, .int .i64 keep] 25 (0, 0))
section
variable {X : Nat → Prop} {w w' : World} {x : Nat} {kind n keep : Int} {A : Option Addr} {m c : Nat}
theorem OpAt.c0 (h : OpAt w x kind n keep A m c) : w.cell? ⟨x, 0, none⟩ = some (.int .i64 kind) := by unfold OpAt at h; simp [World.cell?, h]
theorem OpAt.c1 (h : OpAt w x kind n keep A m c) : w.cell? ⟨x, 1, none⟩ = some (.slice A m c) := by unfold OpAt at h; simp [World.cell?, h]
theorem OpAt.c2 (h : OpAt w x kind n keep A m c) : w.cell? ⟨x, 2, none⟩ = some (.int .i64 n) := by unfold OpAt at h; simp [World.cell?, h]
theorem OpAt.c3 (h : OpAt w x kind n keep A m c) : w.cell? ⟨x, 3, none⟩ = some (.int .i64 keep) := by unfold OpAt at h; simp [World.cell?, h]
theorem OpAt.kept (h : OpAt w x kind n keep A m c) (hk : Kept X w w') (hx : X x) : OpAt w' x kind n keep A m c := (hk x hx).trans h
theorem OpAt.lt (h : OpAt w x kind n keep A m c) : x < w.heap.size := (Array.getElem?_eq_some_iff.1 h).1
end

/-- Both disks and both journals. -/
structure DS (w0 : World) (d r : Nat) (X : Nat → Prop) (jb rb cnt : Nat) (down : Bool) (s t : Ds) (w : World) : Prop where
  both : Both X w0 w d r s t
  xj : X jb
  xr : X rb
  lj : w0.heap.size ≤ jb
  lr : w0.heap.size ≤ rb
  j : JAt w jb d ⟨#[106]⟩ cnt down
  rj : RJAt w rb r ⟨#[106]⟩ cnt down
section
variable {X : Nat → Prop} {w0 w w' : World} {d r jb rb cnt : Nat} {s t s' t' : Ds} {down : Bool}
theorem DS.move {X' : Nat → Prop} (h : DS w0 d r X jb rb cnt down s t w) (hb : Both X' w0 w' d r s' t') (hX : ∀ b, X b → X' b) (hk : Kept X w w') : DS w0 d r X' jb rb cnt down s' t' w' :=
  ⟨hb, hX _ h.xj, hX _ h.xr, h.lj, h.lr, h.j.kept hk h.xj, h.rj.kept hk h.xr⟩
theorem DS.alloc (h : DS w0 d r X jb rb cnt down s t w) (o : Obj) : DS w0 d r (fun b => X b ∨ b = w.heap.size) jb rb cnt down s t (w.alloc o) :=
  h.move (h.both.alloc o) (fun _ => .inl) fun b hb => Below.heap_alloc w o b (h.both.1 b hb)
theorem DS.keep (h : DS w0 d r X jb rb cnt down s t w) (hb : Below w.heap.size w w') : DS w0 d r (More X w w') jb rb cnt down s t w' :=
  h.move (h.both.keep hb) (fun _ => .inl) fun b hx => hb.block b (h.both.1 b hx)
theorem DS.drewN (h : DS w0 d r X jb rb cnt down s t w) (k : Nat) : DS w0 d r X jb rb cnt down s t (w.drewN k) := h.move (h.both.drewN k) (fun _ h => h) fun _ _ => rfl
theorem DS.callD {f : Nat} {args : Array Value} {v : Value} (h : DS w0 d r X jb rb cnt down s t w) (hc : ∀ S, Disk w S d s → Calls Try.prog f args w fun e w' => e = .returned v ∧ AfterD S d w s' w') :
    Calls Try.prog f args w fun e w' => e = .returned v ∧ DS w0 d r X jb rb cnt down s' t w' ∧ Kept X w w' :=
  (h.both.callD hc).mono fun _ _ ⟨a, b, c⟩ => ⟨a, h.move b (fun _ h => h) c, c⟩
theorem DS.callR {f : Nat} {args : Array Value} {v : Value} (h : DS w0 d r X jb rb cnt down s t w) (hc : ∀ T, RefD w T r t → Calls Try.prog f args w fun e w' => e = .returned v ∧ AfterR T r w t' w') :
    Calls Try.prog f args w fun e w' => e = .returned v ∧ DS w0 d r X jb rb cnt down s t' w' ∧ Kept X w w' :=
  (h.both.callR hc).mono fun _ _ ⟨a, b, c⟩ => ⟨a, h.move b (fun _ h => h) c, c⟩
theorem DS.ron (h : DS w0 d r X jb rb cnt down s t w) : DS w0 d r X jb rb cnt down s (onD t) (w.setCell ⟨r, 1, none⟩ (.bool false)) :=
  h.move h.both.ronStore.1 (fun _ h => h) h.both.ronStore.2
theorem DS.ne (h : DS w0 d r X jb rb cnt down s t w) : jb ≠ rb := fun e => by
  have h1 := h.j
  have h2 := h.rj
  unfold JAt at h1
  unfold RJAt at h2
  rw [e, h2] at h1
  simp at h1
/-- Add of the program's journal, then of the document's. -/
theorem DS.addP {A : Option Addr} {m c : Nat} {l : Bs} {q : Int} (h : DS w0 d r X jb rb cnt down s t w) (hl : l.length = m) (hm : m ≤ maxLen) (hL : Lies w w.heap.size A l) (hd : s.deeds < 1000000) (hcnt : cnt < 4611686018427387904) (he : addD s J down l = (q, s')) :
    Calls Try.prog 12 #[.pointer (some ⟨jb, 0, none⟩), .slice A m c] w fun e w' => e = .returned (.int .i64 q) ∧ Both X w0 w' d r s' t ∧ JAt w' jb d ⟨#[106]⟩ (if q = 0 then cnt + 1 else cnt) (down || q == 20) ∧ RJAt w' rb r ⟨#[106]⟩ cnt down ∧ KeptBut X jb w w' :=
  (Jn.addP h.both h.xj h.lj h.j hl hm hL hd hcnt he).mono fun _ w' ⟨a, b, c, k⟩ => ⟨a, b, c, (k rb h.xr (fun e => h.ne e.symm)).trans h.rj, k⟩
end
theorem open_deeds {s t : Ds} {q : Int} (h : openD s J = (q, t)) : t.deeds ≤ s.deeds + 1 := by
  have e : t = (openD s J).2 := by rw [h]
  rw [e]
  unfold openD
  split
  · exact Nat.le_succ _
  split
  · exact Nat.le_succ _
  unfold openCut
  split
  · unfold cutD
    split
    · exact Nat.le_succ _
    split
    · exact Nat.le_succ _
    · exact Nat.le_of_eq (ends_deeds' _ _ (fun _ => rfl))
  · exact Nat.le_succ _
theorem sync_deeds {s t : Ds} {k : Nm} {q : Int} (h : syncD s k = (q, t)) : t.deeds ≤ s.deeds + 1 := by
  have e : t = (syncD s k).2 := by rw [h]
  rw [e]
  unfold syncD
  split
  · exact Nat.le_succ _
  · exact Nat.le_of_eq (ends_deeds' _ _ (fun _ => rfl))
theorem add_deeds {s t : Ds} {down : Bool} {l : Bs} {q : Int} (h : addD s J down l = (q, t)) : t.deeds ≤ s.deeds + 2 := by
  cases down with
  | true =>
    have e : addD s J true l = (20, s) := rfl
    rw [e] at h; injection h with h1 h2; subst h2; omega
  | false =>
    rcases add_cases h with ⟨_, _, rfl⟩ | ⟨_, h2⟩
    · omega
    · rcases store_cases h2 with ⟨q', _, ha, _⟩ | ⟨t1, ha, hs⟩
      · have := append_deeds ha; omega
      · have := append_deeds ha; have := sync_deeds hs; omega
theorem off_deeds (s : Ds) (k : Int) : (offD s k).deeds = s.deeds := by unfold offD; split <;> rfl
end Go.Proofs.Ytkiombbdddbkfaa.Jn
