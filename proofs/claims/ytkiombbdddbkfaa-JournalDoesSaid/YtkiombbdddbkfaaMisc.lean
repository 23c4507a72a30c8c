/-
  Small words on files, rows and memory that is kept. Conditions: none but those that each theorem names.
-/
import Derived.Test.YtkiombbdddbkfaaSteps
import Derived.Laws.MakeOwn
namespace Go.Proofs.Ytkiombbdddbkfaa.Dk
open Go.RowKit Go.Proofs.Ytkiombbdddbkfaa.Pk

theorem fileOr_put {s : Ds} {k : Nm} {f : Fl} {m : List (Nm × Fl)} (h : s.m = put k f m) : fileOr s k = f ∧ get s.m k = some f := by
  have : get s.m k = some f := by rw [h, get_put_same]
  exact ⟨fileOr_some this, this⟩
theorem fileOr_lose {s : Ds} {k : Nm} {f : Fl} {m : List (Nm × Fl)} {keep : Int} (h : s.m = loseAll keep (put k f m)) : (fileOr s k).data.length ≤ f.data.length := by
  have : get s.m k = some (lose keep f) := by rw [h, get_loseAll, get_put_same]; rfl
  rw [fileOr_some this]; exact lose_le keep f
theorem fileOr_lose' {s t : Ds} {k : Nm} {f : Fl} {keep : Int} (hg : get t.m k = some f) (h : s.m = loseAll keep t.m) : (fileOr s k).data.length ≤ f.data.length := by
  have : get s.m k = some (lose keep f) := by rw [h, get_loseAll, hg]; rfl
  rw [fileOr_some this]; exact lose_le keep f
theorem Fresh.good {X : Nat → Prop} {w0 w : World} {d : Nat} {s : Ds} (h : Fresh X w0 w d s) : Good s := by obtain ⟨_, S, ⟨⟨g, _⟩, _⟩, _⟩ := h; exact g
theorem fileOr_long {s : Ds} (g : Good s) (k : Nm) : (fileOr s k).data.length ≤ 16777216 := by
  unfold fileOr
  cases hg : get s.m k with
  | none => simp
  | some f => exact g.long _ (get_mem hg)
theorem Kept.below {X : Nat → Prop} {w w' : World} (hx : ∀ b, X b → b < w.heap.size) (hb : Below w.heap.size w w') : Kept X w w' := fun b h => hb.block b (hx b h)
theorem lies_lb {w : World} {B : Nat} {A : Option Addr} {L lb : List UInt8} (h : Lies w B A L) (e : lb = L.take lb.length) : Lies w B A lb := by
  rw [e]; exact h.take _
theorem own_base {w : World} {base base' n : Nat} {v : Value} {xs : List Value} (h : w.ownsRow base' 5 1 v n xs) (hb : base ≤ base') : w.ownsRow base 5 1 v n xs := by
  refine ⟨h.1, ?_⟩
  rcases h.2 with h1 | ⟨g, cap, cur, rfl, hg, rest⟩
  · exact .inl h1
  · exact .inr ⟨g, cap, cur, rfl, Nat.le_trans hb hg, rest⟩
theorem own_drewN {w : World} {base n : Nat} {v : Value} {xs : List Value} (h : w.ownsRow base 5 1 v n xs) (q : Nat) : (w.drewN q).ownsRow base 5 1 v n xs := h
theorem row_more {X : Nat → Prop} {w3 w4 : World} {v v' : Value} {base n : Nat} {xs : List Value} (hX : ∀ g, v.ownBlock = some g → X g) (_hg : w3.grownBy w4 v.ownBlock) (hown : w4.ownsRow base 5 1 v' n xs) (hloc : v'.ownBlock = v.ownBlock ∨ v'.ownBlock = some w3.heap.size) : ∀ g, v'.ownBlock = some g → More X w3 w4 g := fun g hg => by
  rcases hloc with h | h
  · exact .inl (hX g (h ▸ hg))
  · rw [h] at hg
    have := Option.some.inj hg
    subst this
    exact .inr ⟨Nat.le_refl _, (hown.lt _ h).2⟩
theorem get_some_iff {m : List (Nm × Fl)} {k : Nm} : (get m k).isSome = true ↔ k ∈ m.map (·.1) := by
  constructor
  · intro h
    obtain ⟨f, hf⟩ := Option.isSome_iff_exists.1 h
    exact List.mem_map.2 ⟨_, get_mem hf, rfl⟩
  · induction m with
    | nil => intro h; cases h
    | cons p r ih =>
      obtain ⟨n, f⟩ := p
      intro h
      simp only [get]
      split
      · rfl
      · rename_i hne
        rw [List.map_cons] at h
        rcases List.mem_cons.1 h with h | h
        · exact absurd h.symm hne
        · exact ih h
theorem nodup_of_lt {l : List Nm} (h : l.Pairwise (· < ·)) : l.Nodup := h.imp fun {a b} hab e => by subst e; exact List.lt_irrefl a hab
theorem plain_addr {w : World} {ad : Addr} {v : Value} (h : w.cell? (ad.add 0) = some v) : ∃ b o, ad = ⟨b, o, none⟩ := by
  obtain ⟨b, o, sp⟩ := ad
  have hsp : sp = none := by simpa [Addr.add] using World.cell?_spot h
  exact ⟨b, o, by rw [hsp]⟩
/-- A slice of bytes that came in. -/
def Bytes (w : World) (a : Option Addr) (len : Nat) : Prop := len ≤ maxLen ∧ ∃ l : List UInt8, l.length = len ∧ Lies w w.heap.size a l
theorem bytes_of {H : Type} {enc : TypeId × Value → H} {w : World} {base fuel : Nat} {held : Bool} {a : Option Addr} {len cap : Nat} {x : DataW H × List MemPlace}
    (h : DataW.trod enc Try.prog w base (fun _ => true) held fuel 23 [.slice a len cap] = some x) : Bytes w a len := by
  rcases ChangeShapes.open_ints Try.underlying23 Try.underlying5 (by kernel_rfl) h with ⟨hcs, _⟩ | ⟨ad, l, c, zs, hcs, _, hl, hm, hz, _, hcell, hwz⟩
  · simp at hcs
    obtain ⟨rfl, rfl, rfl⟩ := hcs
    exact ⟨Nat.zero_le _, [], rfl, Lies.none_⟩
  · simp at hcs
    obtain ⟨rfl, rfl, rfl⟩ := hcs
    simp at hz
    obtain ⟨l', hl', hlies⟩ := lies_of_cells (w := w) (x := ad) hl (by omega) (fun j hj => hcell j (by omega)) hwz
    exact ⟨by omega, l', hl', hlies⟩
theorem bytes_val {H : Type} {enc : TypeId × Value → H} {w : World} {base fuel : Nat} {held : Bool} {v : Value} {x : DataW H × List MemPlace}
    (h : DataW.trod enc Try.prog w base (fun _ => true) held fuel 23 [v] = some x) : ∃ A m c l, v = .slice A m c ∧ l.length = m ∧ m ≤ maxLen ∧ Lies w w.heap.size A l := by
  have hv : ∃ A m c, v = .slice A m c := by
    rcases ChangeShapes.open_ints Try.underlying23 Try.underlying5 (by kernel_rfl) h with ⟨hcs, _⟩ | ⟨ad, l, c, zs, hcs, _⟩
    · exact ⟨_, _, _, by simpa using hcs⟩
    · exact ⟨_, _, _, by simpa using hcs⟩
  obtain ⟨A, m, c, rfl⟩ := hv
  obtain ⟨h1, l, h2, h3⟩ := bytes_of h
  exact ⟨A, m, c, l, rfl, h2, h1, h3⟩

end Go.Proofs.Ytkiombbdddbkfaa.Dk
