/-
  package fifo at ticket: Remove by owner
-/
import Derived.Test.YtialmmobkmdfpaaDoorQueFticket
namespace Go.Proofs.YtialmmobkmdfpaaDoor.Fticket
open Go.RowKit

variable {w w' : World} {p rt rw m : Nat} {q : List (El × Nat)} {own : Nat → Nat} {i : Nat}

theorem remove_m (h : FifoM own i w p rt rw q m) (hm : m ≤ 8796093022208) (c1 c2 : Value) (out : El × Nat → Bool) (R : Nat → World → Prop) (S : Nat → Prop)
    (hcall : ∀ j x W, q[j]? = some x → R j W → Calls Tryd.prog 61 #[.pointer (some ⟨x.1, 0, none⟩), c1, c2] W fun e W' => e = .returned (.bool (out x)) ∧ Aside (R (j + 1) W') ∧ Aside (Keeps S W W'))
    (hR : ∀ j W W', R j W → Keeps (fun k => w.heap.size ≤ k) W W' → R j W') (hS : ∀ k, own k = i → ¬ S k) (hS' : ∀ k, S k → k < w.heap.size) (h0 : R 0 w) :
    Calls Tryd.prog 60 #[.pointer (some ⟨p, 0, none⟩), .func (.func 61) #[] #[c1, c2]] w fun e w' => e = .returned (.int .i64 (q.countP out)) ∧
      Aside (FifoM (give own w.heap.size i) i w' p rt rw (q.filter (fun x => !out x)) m) ∧ Aside (Keeps (fun k => own k = i ∨ S k) w w') ∧ Aside (∃ w1, R q.length w1 ∧ Keeps (fun k => own k = i) w1 w') := by
  obtain ⟨v, f, g, h1, h2, h3, h4⟩ := h
  have ho : ∀ k, Own p v k → own k = i := by
    rintro k (rfl | hk)
    · exact h3
    · exact h4 k hk
  refine (remove_in h1 h2.1 (by simp only [by']; omega) c1 c2 out R S hcall hR (fun k hk => hS k (ho k hk)) hS' h0).mono ?_
  rintro e w' ⟨rfl, v', f', g', a, b, c, d, r⟩
  have hl : (q.filter (fun x => !out x)).length ≤ q.length := List.length_filter_le _ _
  obtain ⟨w1, r1, r2⟩ := r.it
  exact ⟨rfl, ⟨mk_o h1 h3 h4 a.it ⟨b.it.1, by have := b.it.2; omega⟩ c.it⟩, ⟨d.it.mono (fun k e _ => e.imp (ho k) id)⟩, ⟨w1, r1, r2.mono (fun k e _ => ho k e)⟩⟩
end Go.Proofs.YtialmmobkmdfpaaDoor.Fticket
