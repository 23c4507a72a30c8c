/-
  Append, step by step: what it does in memory. Conditions: the bytes that are appended lie in memory; lengths.
-/
import Derived.Test.YtkiombbdddbkfaaClone
import Derived.Maps.AppendAt
namespace Go.Proofs.Ytkiombbdddbkfaa.Dk
open Go.RowKit Go.Proofs.Ytkiombbdddbkfaa.Pk

theorem info5 : (Try.prog.info? 5).map (fun i => (i.zero, i.size, i.bytes)) = some (some (.int .u8 0), 1, 1) := by kernel_rfl

/-- append of nothing at all (a nil slice). -/
theorem append_nothing (w : World) (base : Nat) (ty : TypeId) (v : Value) (n : Nat) (xs : List Value) (hown : w.ownsRow base 5 1 v n xs) (c : Nat) : (Builtin.append_ #[23, 23] ty #[v, .slice none 0 c]).run Try.prog w = .ok v w := by
  obtain ⟨i0, hi, -, -, -⟩ := info_parts info5
  rcases hown.2 with ⟨rfl, rfl⟩ | ⟨g, cap, cur, rfl, _, _, h1, _⟩
  · simp [Builtin.append_, run_underlying Try.underlying23, sizeOf, typeInfo, hi, Builtin.lenOf, Builtin.firstCells]
  · simp [Builtin.append_, run_underlying Try.underlying23, sizeOf, typeInfo, hi, Builtin.lenOf, Builtin.firstCells, h1, storeCells]

/-- append of bytes that lie somewhere, or of none; where the new row lies. -/
theorem wpList_append_bytes_at {w : World} {ops : Array Oper} {rest : List Oper} {o : Oper} {a : Act} {Q : Exit → Act → World → Prop} (hgd : o.guard = none) (s x : Operand)
    (ho : o.op = .call { callee := .builtin .append, args := #[s, x], argTypes := #[23, 23] })
    (base : Nat) (v : Value) (n : Nat) (l : List UInt8) (hs : a.eval s = v) (hown : w.ownsRow base 5 1 v n (cells l))
    (A : Option Addr) (m c : Nat) (l' : List UInt8) (hx : a.eval x = .slice A m c) (hm : l'.length = m) (B : Nat) (hr : Lies w B A l')
    (hbytes : n + m ≤ 140737488355328) (hbase : base ≤ w.heap.size)
    (h : ∀ v' w', w'.ownsRow base 5 1 v' (n + m) (cells (l ++ l')) → w.grownBy w' v.ownBlock → (v'.ownBlock = v.ownBlock ∨ v'.ownBlock = some w.heap.size) → wpList Try.prog ops Q rest (a.put o.dst v') w') : wpList Try.prog ops Q (o :: rest) a w := by
  obtain ⟨i0, hi, hz0, hz1, hz2⟩ := info_parts info5
  rcases A with _ | ad
  · have hl : l' = [] := by
      rcases l' with _ | ⟨x, r⟩
      · rfl
      · obtain ⟨b, o, e, _⟩ := hr 0 x rfl
        cases e
    subst hl
    obtain rfl : m = 0 := hm.symm
    have hrun := append_nothing w base o.type v n (cells l) hown c
    refine wpList_plain hgd fun K hK => ?_
    unfold Oper.wp execOp
    simp only [ho, resolve, invoke, builtin, Sem.run_bind, Sem.run_pure, Result.andThen_ok, List.map_toArray, List.map_cons, List.map_nil, hs, hx, hrun]
    exact hK _ _ (h v w (by simpa using hown) ⟨rfl, rfl, rfl, Nat.le_refl _, fun _ _ _ => rfl⟩ (.inl rfl))
  · refine wpList_append_own_at w hgd s x 23 ho base 5 i0 (.int .u8 0) 1 1 Try.underlying23 hi hz0 hz1 hz2 rfl (by decide) v n (cells l) hs hown ad m c (cells l') hx (by rw [cells_length, hm, Nat.mul_one]) ?_ (cells_one l')
      (by unfold maxLen; omega) (by omega) hbase ?_
    · intro j u hu
      simp only [cells, List.getElem?_map, Option.map_eq_some_iff] at hu
      obtain ⟨y, hy, rfl⟩ := hu
      obtain ⟨b, o', e, _, hc⟩ := hr j y hy
      injection e with e
      rw [e, Addr.add_lit]
      exact hc
    · intro v' w' h1 h2 _ h4
      rw [← cells_append] at h1
      exact h v' w' h1 h2 h4

set_option maxHeartbeats 400000 in
theorem append_nil (w : World) (name : ByteArray) (b : Value) : Calls Try.prog 20 #[.pointer none, .string name, b] w fun e w' => e = .returned (.int .i64 3) ∧ w = w' := by
  go_enter Try.func20, Try.ntmps20
  go_wp2
  go_ret
  exact ⟨rfl, rfl⟩
set_option maxHeartbeats 400000 in
theorem append_off {w : World} {d : Nat} (name : ByteArray) (b : Value) (c1 : w.cell? ⟨d, 1, none⟩ = some (.bool true)) : Calls Try.prog 20 #[.pointer (some ⟨d, 0, none⟩), .string name, b] w fun e w' => e = .returned (.int .i64 20) ∧ w = w' := by
  go_enter Try.func20, Try.ntmps20
  go_wp2
  go_ret
  exact ⟨rfl, rfl⟩
set_option maxHeartbeats 400000 in
theorem append_name {w : World} {d : Nat} {name : ByteArray} (b : Value) (c1 : w.cell? ⟨d, 1, none⟩ = some (.bool false)) (hs : name.size ≤ maxLen) (hn : isName name.data.toList = false) :
    Calls Try.prog 20 #[.pointer (some ⟨d, 0, none⟩), .string name, b] w fun e w' => e = .returned (.int .i64 51) ∧ w = w' := by
  have HN := Lib.hid hn
  clear hn
  go_enter Try.func20, Try.ntmps20
  go_wp2_with (go_at_call 40; refine (isFileName_any name _ hs).mono ?_; rintro e w' ⟨rfl, rfl⟩; rw [HN.out])
  go_ret
  exact ⟨rfl, rfl⟩
set_option maxHeartbeats 400000 in
theorem append_long_new {w : World} {d m c : Nat} {mv : Value} {A : Option Addr} {name : ByteArray} (c0 : w.cell? ⟨d, 0, none⟩ = some mv) (c1 : w.cell? ⟨d, 1, none⟩ = some (.bool false)) (hs : name.size ≤ maxLen) (hn : isName name.data.toList = true)
    (hrun : (Instr.lookup 58 mv (.string name) false).run Try.prog w = .ok (.pointer none) w) (hm : 16777216 < m) :
    Calls Try.prog 20 #[.pointer (some ⟨d, 0, none⟩), .string name, .slice A m c] w fun e w' => e = .returned (.int .i64 2) ∧ w = w' := by
  have HN := Lib.hid hn
  clear hn
  have hz : (16777216 : Int) < (m : Int) := by omega
  go_enter Try.func20, Try.ntmps20
  go_wp2_with (first
    | (go_at_call 40; refine (isFileName_any name _ hs).mono ?_; rintro e w' ⟨rfl, rfl⟩; rw [HN.out])
    | (go_at_call 41; refine (size_nil _).mono ?_; rintro e w' ⟨rfl, rfl⟩))
  go_ret
  exact ⟨rfl, rfl⟩
set_option maxHeartbeats 400000 in
theorem append_long_old {w : World} {d fb m c n cap : Nat} {mv : Value} {A A0 : Option Addr} {name : ByteArray} (c0 : w.cell? ⟨d, 0, none⟩ = some mv) (c1 : w.cell? ⟨d, 1, none⟩ = some (.bool false)) (hs : name.size ≤ maxLen) (hn : isName name.data.toList = true)
    (hrun : (Instr.lookup 58 mv (.string name) false).run Try.prog w = .ok (.pointer (some ⟨fb, 0, none⟩)) w) (cf : w.cell? ⟨fb, 0, none⟩ = some (.slice A0 n cap)) (hn1 : n ≤ 16777216) (hm : 16777216 < n + m) :
    Calls Try.prog 20 #[.pointer (some ⟨d, 0, none⟩), .string name, .slice A m c] w fun e w' => e = .returned (.int .i64 2) ∧ w = w' := by
  have HN := Lib.hid hn
  clear hn
  have hz : (16777216 : Int) - (n : Int) < (m : Int) := by omega
  go_enter Try.func20, Try.ntmps20
  go_wp2_with (first
    | (go_at_call 40; refine (isFileName_any name _ hs).mono ?_; rintro e w' ⟨rfl, rfl⟩; rw [HN.out])
    | (go_at_call 41; refine (size_cell cf).mono ?_; rintro e w' ⟨rfl, rfl⟩))
  go_ret
  exact ⟨rfl, rfl⟩

def code (hit : Bool) : Int := if hit then 20 else 0

theorem row_ne {w : World} {fb n : Nat} {v v0 : Value} {s0 : Int} {xs : List Value} (hf : FC w fb v0 s0) (hown : w.ownsRow 0 5 1 v n xs) : some fb ≠ v.ownBlock := fun e => by
  rcases hown.2 with ⟨hv, _⟩ | ⟨g, cap', cur, hv, _, hgg, _⟩
  · rw [hv] at e; cases e
  · rw [hv] at e
    have := Option.some.inj e
    unfold FC at hf
    simp only at this
    rw [← this, hf] at hgg
    simp at hgg

set_option maxHeartbeats 1000000 in
theorem append_old {w : World} {d fb m c n : Nat} {mv v : Value} {A : Option Addr} {name : ByteArray} {l l' : List UInt8} {s0 : Int} {hit : Bool} {Q : World → Prop} (c0 : w.cell? ⟨d, 0, none⟩ = some mv) (c1 : w.cell? ⟨d, 1, none⟩ = some (.bool false)) (hs : name.size ≤ maxLen) (hn : isName name.data.toList = true)
    (hrun : (Instr.lookup 58 mv (.string name) false).run Try.prog w = .ok (.pointer (some ⟨fb, 0, none⟩)) w) (hf : FC w fb v s0) (hown : w.ownsRow 0 5 1 v n (cells l)) (hn1 : n + m ≤ 16777216) (hl : l'.length = m) (hr : Lies w w.heap.size A l')
    (H : ∀ v' w1, w1.ownsRow 0 5 1 v' (n + m) (cells (l ++ l')) → w.grownBy w1 v.ownBlock → (v'.ownBlock = v.ownBlock ∨ v'.ownBlock = some w.heap.size) → Calls Try.prog 43 #[.pointer (some ⟨d, 0, none⟩)] (w1.setCell ⟨fb, 0, none⟩ v') (fun e w' => e = .returned (.bool hit) ∧ Q w')) :
    Calls Try.prog 20 #[.pointer (some ⟨d, 0, none⟩), .string name, .slice A m c] w fun e w' => e = .returned (.int .i64 (code hit)) ∧ Q w' := by
  obtain ⟨A0, cap, rfl, hcap, hcm⟩ := own_cap hown
  have cf := hf.c0
  have hz : (m : Int) ≤ (16777216 : Int) - (n : Int) := by omega
  have hfb : fb < w.heap.size := World.block_lt_of_cell? _ _ cf
  have hne := row_ne hf hown
  have HH : Hid (∀ v' w1, w1.ownsRow 0 5 1 v' (n + m) (cells (l ++ l')) → w.grownBy w1 (Value.slice A0 n cap).ownBlock → (v'.ownBlock = (Value.slice A0 n cap).ownBlock ∨ v'.ownBlock = some w.heap.size) →
      ∃ A1 cap1, v' = .slice A1 (n + m) cap1 ∧ w1.cell? ⟨fb, 0, none⟩ = some (.slice A0 n cap) ∧ w1.frozen? ⟨fb, 0, none⟩ = false ∧ Hid (Calls Try.prog 43 #[.pointer (some ⟨d, 0, none⟩)] (w1.setCell ⟨fb, 0, none⟩ (.slice A1 (n + m) cap1)) (fun e w' => e = .returned (.bool hit) ∧ Q w'))) := by
    intro v' w1 hown' hg hloc
    obtain ⟨A1, cap1, hv, -, -⟩ := own_cap hown'
    have hfc : FC w1 fb (.slice A0 n cap) s0 := (hg.block fb hfb hne).trans hf
    exact ⟨A1, cap1, hv, hfc.c0, hfc.fz 0, hv ▸ H v' w1 hown' hg hloc⟩
  have HN := Lib.hid hn
  have HL := Lib.hid hl
  clear hn H hl hne
  cases hit
  all_goals
    go_enter Try.func20, Try.ntmps20
    go_wp2_with (first
      | (go_at_call 40; refine (isFileName_any name _ hs).mono ?_; rintro e w' ⟨rfl, rfl⟩; rw [HN.out])
      | (go_at_call 41; refine (size_cell cf).mono ?_; rintro e w' ⟨rfl, rfl⟩)
      | (at_builtin; refine wpList_append_bytes_at rfl (.tmp 38) (.tmp 39) rfl 0 (.slice A0 n cap) n l rfl hown A m c l' rfl HL.out w.heap.size hr (by omega) (by omega) ?_; intro v' w1 hown' hg hloc; obtain ⟨A1, cap1, rfl, cf1, ff1, HC⟩ := HH.out v' w1 hown' hg hloc; clear hown' hg hloc)
      | (go_at_call 43; refine HC.out.mono ?_; rintro e w' ⟨rfl, hq⟩))
    go_ret
    exact ⟨ret_int rfl, hq⟩

set_option maxHeartbeats 1000000 in
theorem append_new {w : World} {d m c : Nat} {mv : Value} {A : Option Addr} {name : ByteArray} {l' : List UInt8} {hit : Bool} {R : Nat → World → Prop} {Q : World → Prop} (c0 : w.cell? ⟨d, 0, none⟩ = some mv) (c1 : w.cell? ⟨d, 1, none⟩ = some (.bool false)) (hs : name.size ≤ maxLen) (hn : isName name.data.toList = true)
    (hrun : (Instr.lookup 58 mv (.string name) false).run Try.prog w = .ok (.pointer none) w) (hn1 : m ≤ 16777216) (hl : l'.length = m)
    (HC : Calls Try.prog 42 #[.pointer (some ⟨d, 0, none⟩), .string name] w (fun e w1 => ∃ fb, e = .returned (.pointer (some ⟨fb, 0, none⟩)) ∧ R fb w1))
    (HR : ∀ fb w1, R fb w1 → FC w1 fb (.slice none 0 0) 0 ∧ Lies w1 w1.heap.size A l')
    (H : ∀ fb w1, R fb w1 → ∀ v' w2, w2.ownsRow 0 5 1 v' m (cells l') → w1.grownBy w2 none → (v'.ownBlock = none ∨ v'.ownBlock = some w1.heap.size) → Calls Try.prog 43 #[.pointer (some ⟨d, 0, none⟩)] (w2.setCell ⟨fb, 0, none⟩ v') (fun e w' => e = .returned (.bool hit) ∧ Q w')) :
    Calls Try.prog 20 #[.pointer (some ⟨d, 0, none⟩), .string name, .slice A m c] w fun e w' => e = .returned (.int .i64 (code hit)) ∧ Q w' := by
  have hz : (m : Int) ≤ (16777216 : Int) := by omega
  have HR1 : Hid (∀ fb w1, R fb w1 → w1.cell? ⟨fb, 0, none⟩ = some (.slice none 0 0) ∧ Hid (Lies w1 w1.heap.size A l' ∧ R fb w1)) := by
    intro fb w1 hR
    exact ⟨(HR fb w1 hR).1.c0, (HR fb w1 hR).2, hR⟩
  have HH : Hid (∀ fb w1, R fb w1 → ∀ v' w2, w2.ownsRow 0 5 1 v' (0 + m) (cells ([] ++ l')) → w1.grownBy w2 (Value.slice none 0 0).ownBlock → (v'.ownBlock = (Value.slice none 0 0).ownBlock ∨ v'.ownBlock = some w1.heap.size) →
      ∃ A1 cap1, v' = .slice A1 m cap1 ∧ w2.cell? ⟨fb, 0, none⟩ = some (.slice none 0 0) ∧ w2.frozen? ⟨fb, 0, none⟩ = false ∧ Hid (Calls Try.prog 43 #[.pointer (some ⟨d, 0, none⟩)] (w2.setCell ⟨fb, 0, none⟩ (.slice A1 m cap1)) (fun e w' => e = .returned (.bool hit) ∧ Q w'))) := by
    intro fb w1 hR v' w2 hown' hg hloc
    rw [Nat.zero_add, List.nil_append] at hown'
    obtain ⟨A1, cap1, hv, -, -⟩ := own_cap hown'
    have hf := (HR fb w1 hR).1
    have hfc : FC w2 fb (.slice none 0 0) 0 := (hg.block fb (Array.getElem?_eq_some_iff.1 hf).1 (by simp [Value.ownBlock])).trans hf
    exact ⟨A1, cap1, hv, hfc.c0, hfc.fz 0, hv ▸ H fb w1 hR v' w2 hown' hg hloc⟩
  have HN := Lib.hid hn
  have HL := Lib.hid hl
  have HCr := Lib.hid HC
  clear hn H hl HC HR
  cases hit
  all_goals
    go_enter Try.func20, Try.ntmps20
    go_wp2_with (first
      | (go_at_call 40; refine (isFileName_any name _ hs).mono ?_; rintro e w' ⟨rfl, rfl⟩; rw [HN.out])
      | (go_at_call 41; refine (size_nil _).mono ?_; rintro e w' ⟨rfl, rfl⟩)
      | (go_at_call 42; refine HCr.out.mono ?_; rintro e w1 ⟨fb, rfl, hR⟩; obtain ⟨cf, HLR⟩ := HR1.out fb w1 hR; clear hR)
      | (at_builtin; refine wpList_append_bytes_at rfl (.tmp 38) (.tmp 39) rfl 0 (.slice none 0 0) 0 [] rfl (World.ownsRow_nil _ _ _ _) A m c l' rfl HL.out w1.heap.size HLR.out.1 (by omega) (by omega) ?_; intro v' w2 hown' hg hloc; obtain ⟨A1, cap1, rfl, cf1, ff1, HC⟩ := HH.out fb w1 HLR.out.2 v' w2 hown' hg hloc; clear hown' hg hloc)
      | (go_at_call 43; refine HC.out.mono ?_; rintro e w' ⟨rfl, hq⟩))
    go_ret
    exact ⟨ret_int rfl, hq⟩
end Go.Proofs.Ytkiombbdddbkfaa.Dk
