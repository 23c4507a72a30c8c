/-
  Names of a disk: the names of all files, in order, in new memory. Conditions: the disk stands in memory, few deeds.
-/
import Derived.Test.YtkckpeejamidpaaDiskStopsWalk
import Derived.Sort.OwnSorted
import Derived.Laws.MakeOwn
namespace Go.Proofs.Ytkckpeejamidpaa.Dk
open Go.RowKit Go.Proofs.Ytkckpeejamidpaa.Pk Go.Sort

theorem info9 : (Try.prog.info? 9).map (fun i => (i.zero, i.size, i.bytes)) = some (some (.string ⟨#[]⟩), 1, 16) := by kernel_rfl
theorem sort_any (blk off cap : Nat) (ss : List (List UInt8)) (w : World) (hH : Holds encStr w blk off ss.toArray) (hblk : blk < w.heap.size) (hsz : ss.length < 4611686018427387904) :
    Calls Try.prog 37 #[.slice (some ⟨blk, off, none⟩) ss.length cap] w fun e w' =>
      e = .returned (.tuple #[]) ∧ ∃ n os, w' = grow (putRow encStr (Sort.ahead w n) blk off (ss.mergeSort fun x y => decide (x ≤ y)).toArray) os := Any.slices_Sort_string Try.lays190 blk off cap ss w hH hblk hsz

/-- Strings handed back in new memory. -/
def Lists (w : World) (ns : List Nm) (e : Ending) (w' : World) : Prop :=
  ∃ A c, e = .returned (.slice A ns.length c) ∧ w'.ownsRow w.heap.size 9 1 (.slice A ns.length c) ns.length (ns.map encStr) ∧ Below w.heap.size w w'

set_option maxRecDepth 100000 in
set_option maxHeartbeats 1000000 in
theorem names_map {w : World} {d bm n : Nat} {D : DataW Unit} (c0 : w.cell? ⟨d, 0, none⟩ = some (.map (some bm))) (c1 : w.cell? ⟨d, 1, none⟩ = some (.bool false)) (hown : w.ownsMap Try.prog 9 ptrElem bm n D) (hn : n ≤ 8796093022208) :
    Calls Try.prog 22 #[.pointer (some ⟨d, 0, none⟩)] w fun e w' => ∃ ss left, Collected D left ss ∧ (∀ kl, left kl = false) ∧ Lists w (ss.mergeSort fun x y => decide (x ≤ y)) e w' := by
  obtain ⟨i0, hi, hz0, hz1, hz2⟩ := info_parts info9
  have hbl := hown.lt
  have hsz := hown.size_le
  have hmax : Maps.size D ≤ maxLen := by unfold maxLen; omega
  have hbytes : 16 * Maps.size D ≤ 140737488355328 := by omega
  have hdl : d < w.heap.size := World.block_lt_of_cell? _ _ c0
  go_enter Try.func22, Try.ntmps22
  go_wp2_with (first
    | (go_at_call 12; refine (up_top c1).mono ?_; rintro e w' ⟨rfl, rfl⟩)
    | (at_len; refine wpList_len_own _ rfl _ 57 rfl 9 60 Try.underlying57 _ bm n _ rfl hown ?_)
    | (at_make; refine wpList_make_own _ rfl _ _ 50 rfl w.heap.size 9 i0 (.string ⟨#[]⟩) 1 Try.underlying50 hi hz0 hz1 _ _ _ (Maps.size D) rfl rfl rfl (by rw [hz2]; omega) hmax (Nat.le_refl _) ?_; intro w1 hrow1 hg1; have c01 : w1.cell? ⟨d, 0, none⟩ = some (.map (some bm)) := (World.cell?_of_block (w := w) (a := ⟨d, 0, none⟩) (hg1.block d hdl (by simp))).trans c0)
    | (at_range; refine wpList_range_own _ rfl _ 57 rfl 9 60 law Try.underlying57 _ bm n _ rfl (hown.kept hg1 (by simp)) ?_; intro w0 hrg0 hg0 hs0))
  go_frame
  go_loopw [3] (fun v wr => ∃ (left : Lit → Bool) (cnt : Nat) (ss : List (List UInt8)), wr.ranges Try.prog 9 ptrElem bm w1.heap.size n D left cnt ∧ ss.length + cnt ≤ Maps.size D ∧
      wr.ownsRow w.heap.size 9 1 v ss.length (ss.map encStr) ∧ v ≠ .slice none 0 0 ∧ Collected D left ss ∧ Below w.heap.size w wr)
    (fun _ wr => wr.rangeLeft bm w1.heap.size)
  case atStart =>
    exact ⟨_, _, [], hrg0, by simp, hrow1.kept hg0 (Or.inr (by simp [Value.ownBlock])), by simp, Collected.start D,
      ((Below.refl _ _).grown hg1 (Nat.le_refl _) (fun j hj => by cases hj)).grown hg0 hg1.size (fun j hj => by cases hj)⟩
  case round =>
    obtain ⟨left, cnt, ss, hrg, hcs, hrow, hnn, hC, hnx⟩ := hrel
    clear hs0
    go_wp2_with (first
      | (at_next; refine wpList_next_ranges _ rfl _ rfl 9 law ptrElem encStr ptrV (fun key kl hk => by obtain ⟨x, hx, _⟩ := Maps.keyOf_str Try.underlying9 hk; exact ⟨x, hx⟩) (fun v y hv => ptrElem_inv hv) bm w1.heap.size n _ _ _ rfl hrg ?_ ?_))
    · intro hc0 hl0
      rcases hrow.2 with ⟨hnil, _⟩ | ⟨g, cap, cur, rfl, hbase, hb, h1, h2, h3, h4⟩
      · exact absurd hnil hnn
      have hH : Holds encStr wr g 0 ss.toArray := holds_of_block hb (by simpa using h4)
      have hgl : g < wr.heap.size := (Array.getElem?_eq_some_iff.1 hb).1
      have hc := Lib.hid (sort_any g 0 cap ss wr hH hgl (by omega))
      clear hc0
      go_wp2_with (go_at_call 37; refine hc.out.mono ?_; rintro e w' ⟨rfl, nn, os, rfl⟩)
      go_ret
      have hlen : (ss.mergeSort fun x y => decide (x ≤ y)).length = ss.length := List.length_mergeSort ss
      refine ⟨ss, left, hC, hl0, some ⟨g, 0, none⟩, cap, by rw [hlen]; rfl, ?_, hnx.grown (grownBy_sorted _) hnx.size (fun j hj => by cases hj; exact hbase)⟩
      rw [hlen]
      exact ownsRow_sorted (by simp) hbase hb h1 h2 h3
    · intro x c kl yd yp w2 cnt2 hkey hlk hv hat hrg2 hlt hg2 hs2 hen
      obtain ⟨x', ex, rfl, _⟩ := Maps.keyOf_str Try.underlying9 hkey
      obtain rfl : x = x' := encStr_inj ex
      have hrow2 := hrow.kept hg2 (Or.inr (row_ne_iter hrow hrg).symm)
      clear hs2
      go_wp2_with (first
        | (at_builtin; refine wpList_append_own _ rfl _ _ 50 rfl w.heap.size 9 i0 (.string ⟨#[]⟩) 1 16 Try.underlying50 hi hz0 hz1 hz2 rfl (by decide) _ _ _ rfl (hrow2.alloc _) ⟨w2.heap.size, 0, none⟩ 1 1 [encStr x] rfl rfl (cell_one_new _ _ _) (by simp [Value.oneCell', encStr]) (by unfold maxLen at *; omega) (by omega) (by have := hnx.size; have := hg2.size; simp; omega) ?_; intro v' w3 hown' hg3 hnil3; go_frame))
      have hrg3 := (hrg2.alloc _).kept hg3 (row_ne_low hrow2 hbl) (row_ne_iter hrow2 hrg2)
      go_roundw
      case rel =>
        refine ⟨_, cnt2, ss ++ [x], hrg3, by simp; omega, by simpa using hown', fun hv' => by have := (hnil3.1 hv').2; omega, hC.step hlk hat, ?_⟩
        exact ((hnx.grown hg2 hnx.size (fun j hj => by cases hj; exact hg1.size)).alloc (by have := hnx.size; have := hg2.size; omega) _).grown hg3 (by have := hnx.size; have := hg2.size; simp; omega) (fun j hj => (hrow2.lt j hj).1)
      case measure => rw [hrg3.left_eq, hrg.left_eq]; exact hlt

set_option maxRecDepth 100000 in
set_option maxHeartbeats 1000000 in
theorem names_none {w : World} {d : Nat} (c0 : w.cell? ⟨d, 0, none⟩ = some (.map none)) (c1 : w.cell? ⟨d, 1, none⟩ = some (.bool false)) : Calls Try.prog 22 #[.pointer (some ⟨d, 0, none⟩)] w (Lists w []) := by
  obtain ⟨i0, hi, hz0, hz1, hz2⟩ := info_parts info9
  have hdl : d < w.heap.size := World.block_lt_of_cell? _ _ c0
  have hln := fun (W : World) (ty : TypeId) => Maps.len_nil (P := Try.prog) (w := W) Try.underlying57 ty
  go_enter Try.func22, Try.ntmps22
  go_wp2_with (first
    | (go_at_call 12; refine (up_top c1).mono ?_; rintro e w' ⟨rfl, rfl⟩)
    | (at_make; refine wpList_make_own _ rfl _ _ 50 rfl w.heap.size 9 i0 (.string ⟨#[]⟩) 1 Try.underlying50 hi hz0 hz1 _ _ _ 0 rfl rfl rfl (by omega) (Nat.zero_le _) (Nat.le_refl _) ?_; intro w1 hrow1 hg1; have c01 : w1.cell? ⟨d, 0, none⟩ = some (.map none) := (World.cell?_of_block (w := w) (a := ⟨d, 0, none⟩) (hg1.block d hdl (by simp))).trans c0; have hrg := run_range_nilMap (P := Try.prog) w1 57 9 60 Try.underlying57; have hnx : ∀ ty, (Instr.next (.pointer (some ⟨w1.heap.size, 0, none⟩)) false ty).run Try.prog (w1.alloc (.mapIter none 0 #[] 0)) = _ := fun ty => run_next_nilMap _ ty 0 0 #[]))
  refine wp_loop_rounds 1 ?_
  rw [rounds_succ]
  have hrow2 := hrow1.alloc (.mapIter none 0 #[] 0)
  rcases hrow2.2 with ⟨hnil, _⟩ | ⟨g, cap, cur, hv, hbase, hb, h1, h2, h3, h4⟩
  · cases hnil
  cases hv
  have hH : Holds encStr (w1.alloc (.mapIter none 0 #[] 0)) w.heap.size 0 ([] : List (List UInt8)).toArray := fun j hj => absurd hj (by simp)
  have hc := Lib.hid (sort_any w.heap.size 0 0 [] _ hH (Array.getElem?_eq_some_iff.1 hb).1 (by decide))
  go_wp2_with (go_at_call 37; refine hc.out.mono ?_; rintro e w' ⟨rfl, nn, os, rfl⟩)
  go_ret
  exact ⟨_, _, rfl, ownsRow_sorted (ss := []) (ts := []) rfl hbase hb h1 h2 h3, (((Below.refl _ _).grown hg1 (Nat.le_refl _) (fun j hj => by cases hj)).alloc hg1.size _).grown (grownBy_sorted _) (by have := hg1.size; simp; omega) (fun j hj => by cases hj; exact Nat.le_refl _)⟩

theorem get_some_iff {m : List (Nm × Fl)} {k : Nm} : (get m k).isSome = true ↔ k ∈ m.map (·.1) := by
  constructor
  · intro h
    obtain ⟨f, hf⟩ := Option.isSome_iff_exists.1 h
    exact List.mem_map.2 ⟨_, get_mem hf, rfl⟩
  · induction m with
    | nil => intro h; cases h
    | cons p r ih =>
      obtain ⟨n, f⟩ := p
      intro h
      simp only [get]
      split
      · rfl
      · rename_i hne
        rw [List.map_cons] at h
        rcases List.mem_cons.1 h with h | h
        · exact absurd h.symm hne
        · exact ih h
theorem sorted_le {l : List Nm} (h : l.Pairwise (· < ·)) : l.mergeSort (fun x y => decide (x ≤ y)) = l := by
  refine List.mergeSort_of_pairwise (h.imp fun {a b} hab => ?_)
  simpa using List.le_of_lt hab
theorem nodup_of_lt {l : List Nm} (h : l.Pairwise (· < ·)) : l.Nodup := h.imp fun {a b} hab e => by subst e; exact List.lt_irrefl a hab

theorem names_any {w : World} {S : Nat → Prop} {d : Nat} {s : Ds} (h : Disk w S d s) (hd : s.deeds ≤ 8796093022208) : Calls Try.prog 22 #[.pointer (some ⟨d, 0, none⟩)] w (Lists w (namesD s)) := by
  obtain ⟨⟨g, hsd, hlt, mv, ht, hi⟩, hmany⟩ := h
  cases ho : s.off with
  | true =>
    rw [ho] at ht
    have : namesD s = [] := by unfold namesD; rw [if_pos ho]
    rw [this]
    refine (names_off ht.c1).mono ?_
    rintro e w' ⟨rfl, rfl⟩
    exact ⟨none, 0, rfl, ⟨by simp, .inl ⟨rfl, rfl⟩⟩, Below.refl _ _⟩
  | false =>
    have : namesD s = s.m.map (·.1) := by unfold namesD; rw [if_neg (by simp [ho])]
    rw [this]
    rw [ho] at ht
    rcases hi with ⟨rfl, hm0⟩ | ⟨bm, D, pl, v, rfl, hsb, hown, hh⟩
    · rw [hm0]
      exact names_none ht.c0 ht.c1
    · refine (names_map ht.c0 ht.c1 hown (by omega)).mono ?_
      rintro e w' ⟨ss, left, hC, hl, hL⟩
      have hp : ss.Perm (s.m.map (·.1)) := (List.perm_ext_iff_of_nodup hC.1 (nodup_of_lt g.sorted)).2 fun x => by
        rw [hC.2 x, hl, hh.has, get_some_iff]; simp
      have e1 : ss.mergeSort (fun x y => decide (x ≤ y)) = s.m.map (·.1) := (mergeSort_of_perm hp).trans (sorted_le g.sorted)
      rw [e1] at hL
      exact hL
end Go.Proofs.Ytkckpeejamidpaa.Dk
