/-
  package ring at int: At
-/
import Derived.Test.YtkmijhfimkcoiaaDoorRingFint
namespace Go.Proofs.YtkmijhfimkcoiaaDoor.Rint
open Go.RowKit

theorem at_out (w : World) (x : Value) (i : Int) (held : Nat) (hi : i < 0 ∨ (held : Int) ≤ i) (hl : Calls Tryd.prog 17 #[x] w fun e w' => e = .returned (.int .i64 held) ∧ w' = w) :
    Calls Tryd.prog 23 #[x, .int .i64 i] w fun e w' => e = .returned (.tuple #[(.int .i64 0), .bool false]) ∧ w' = w := by
  have L := hide hl
  clear hl
  rcases Int.lt_or_le i 0 with h | h
  · clear hi
    go_enter Tryd.func23, Tryd.ntmps23
    go_wp2
    go_ret2
    exact ⟨rfl, rfl⟩
  · have h' : (held : Int) ≤ i := by omega
    clear hi
    go_enter Tryd.func23, Tryd.ntmps23
    go_wp2_with fail
    refine L.out.mono ?_
    rintro e w' ⟨rfl, rfl⟩
    go_wp2
    go_ret2
    exact ⟨rfl, rfl⟩
theorem at_in (w : World) (p cap : Nat) (items : List Value) (v : Value) (first : Nat) (vals : List Value) (h : RingIn w p cap items v first vals) (i : Nat) (hi : i < items.length) (u : Value) (hu : items[i]? = some u) :
    Calls Tryd.prog 23 #[.pointer (some ⟨p, 0, none⟩), .int .i64 i] w fun e w' => e = .returned (.tuple #[u, .bool true]) ∧ Hid (Keeps Nowhere w w') := by
  have hcap := h.most
  have hlen := h.len
  have hroom := h.room
  have hfits := h.fits
  have L := hide (len_at w p cap v first _ h.cells)
  obtain ⟨g, rfl, hc⟩ : ∃ g, v = .slice (some ⟨g, 0, none⟩) vals.length vals.length ∧ Cells w g 3 vals := by
    rcases h.row with ⟨_, rfl⟩ | hx
    · rw [List.length_nil] at hroom; omega
    · exact hx
  have hf : first < vals.length := by
    rcases h.start with hx | ⟨hx, _⟩
    · exact hx
    · rw [hx, List.length_nil] at hroom; omega
  have hu' := h.holds i hi
  rw [hu] at hu'
  have hpl : pl first vals.length i < vals.length := by unfold pl; split <;> omega
  have cu : w.cell? ⟨g, pl first vals.length i, none⟩ = some u := by rw [hc.cell]; exact hu'.symm
  have c1 : w.cell? ⟨p, 1, none⟩ = some (.slice (some ⟨g, 0, none⟩) vals.length vals.length) := by rw [h.cells.cell]; rfl
  have one : u.oneCell' = true := h.itemsOne u (List.mem_of_getElem? hu)
  have PL := hide (place_at w.drew p cap (some ⟨g, 0, none⟩) vals.length vals.length first items.length i h.cells.drew (by omega) (by omega))
  obtain ⟨n, hn⟩ : ∃ n, n = vals.length := ⟨_, rfl⟩
  obtain ⟨q, hq⟩ : ∃ q, q = pl first n i := ⟨_, rfl⟩
  obtain ⟨m, hm⟩ : ∃ m, m = items.length := ⟨_, rfl⟩
  rw [← hn] at c1 cu hpl PL hroom hfits
  rw [← hq] at cu hpl PL
  rw [← hm] at L hi hlen hroom
  clear h hc hu hu' hf hn hq hm
  go_enter Tryd.func23, Tryd.ntmps23
  go_wp2_with fail
  refine L.out.mono ?_
  rintro e w' ⟨rfl, rfl⟩
  clear L
  go_wp2_with fail
  go_region_held_law (fun w' => w'.cell? ⟨p, 1, none⟩ = some (.slice (some ⟨g, 0, none⟩) n n) ∧ w'.cell? ⟨g, q, none⟩ = some u) (exact ⟨c1, cu⟩) ((go_at_call 28; refine PL.out.mono ?_; rintro e w2 ⟨rfl, rfl⟩))
  go_wp2
  go_ret2
  exact ⟨rfl, (Keeps.refl _ _).drew⟩
variable {S : Nat → Prop} {w : World} {x : Value} {cap : Nat} {items : List Value}

/-- the thing with i ahead of it -/
def atI (items : List Value) (i : Int) : Option Value := if i < 0 then none else items[i.toNat]?
theorem atV (h : RingV S w x cap items) (i : Int) : Calls Tryd.prog 23 #[x, .int .i64 i] w fun e w' => e = .returned (.tuple #[(atI items i).getD (.int .i64 0), .bool (atI items i).isSome]) ∧ Keeps Nowhere w w' := by
  by_cases hi : i < 0 ∨ (items.length : Int) ≤ i
  · have e : atI items i = none := by
      unfold atI
      split
      · rfl
      · exact List.getElem?_eq_none (by omega)
    rw [e]
    refine (at_out w x i items.length hi (lenV h)).mono ?_
    rintro e w' ⟨rfl, rfl⟩
    exact ⟨rfl, Keeps.refl _ _⟩
  · obtain ⟨j, rfl⟩ : ∃ j : Nat, i = j := ⟨i.toNat, by omega⟩
    have hj : j < items.length := by omega
    have e : atI items j = some items[j] := by
      unfold atI
      rw [if_neg (by omega), Int.toNat_natCast, List.getElem?_eq_getElem hj]
    rw [e]
    rcases h with ⟨rfl, rfl, rfl⟩ | ⟨p, v, f, vals, rfl, h, hp, hv⟩
    · simp at hj
    · refine (at_in w p cap items v f vals h j hj items[j] (List.getElem?_eq_getElem hj)).mono ?_
      rintro e w' ⟨rfl, hk⟩
      exact ⟨rfl, hk.out⟩
end Go.Proofs.YtkmijhfimkcoiaaDoor.Rint
