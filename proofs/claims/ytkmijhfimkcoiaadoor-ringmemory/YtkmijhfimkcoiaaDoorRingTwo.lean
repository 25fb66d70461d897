/-
  culvertlaw02: two rings side by side (RingBlind)
-/
import Derived.Test.YtkmijhfimkcoiaaDoorRingOint
import Derived.Test.YtkmijhfimkcoiaaDoorRingGint
import Derived.Test.YtkmijhfimkcoiaaDoorRingHint
import Derived.Test.YtkmijhfimkcoiaaDoorRingFixed
namespace Go.Proofs.YtkmijhfimkcoiaaDoor
open Go.RowKit Rint

/-- two rings, a of la, b of lb; a block c of cells beside them -/
structure TwoAt (B : Nat) (w0 : World) (a b : Value) (n : Nat) (la lb : List Int) (own : Nat → Nat) (w : World) : Prop where
  ground : Ground B w0 own w
  ra : RingO own 1 w a n (iv la)
  rb : RingO own 2 w b n (iv lb)

variable {B : Nat} {w0 w w' : World} {a b : Value} {n : Nat} {la lb : List Int} {own : Nat → Nat}

theorem TwoAt.quiet (h : TwoAt B w0 a b n la lb own w) (hk : Keeps Nowhere w w') : TwoAt B w0 a b n la lb own w' := ⟨h.ground.quiet hk, h.ra.quiet hk, h.rb.quiet hk⟩
theorem TwoAt.fresh (h : TwoAt B w0 a b n la lb own w) (hk : Keeps Nowhere w w') (r : Nat) : TwoAt B w0 a b n la lb (give own w.heap.size r) w' :=
  ⟨(h.ground.quiet hk).give _ _ h.ground.size, RingO.fresh h.ra hk r, RingO.fresh h.rb hk r⟩
theorem keepO {own' : Nat → Nat} {i j g : Nat} {e : TypeId} {cs : List Value} (hc : CellsO own j w g e cs) (hk : Keeps (fun k => own k = i) w w') (hij : j ≠ i) (ho : ∀ k, k < w.heap.size → own' k = own k) : CellsO own' j w' g e cs :=
  ⟨(hc.others hk hij 0).1, (ho g hc.1.lt).trans hc.2⟩
theorem keepR {own' : Nat → Nat} {i j : Nat} {e : TypeId} {v : Value} {cs : List Value} (hc : RowO own j w e v cs) (hk : Keeps (fun k => own k = i) w w') (hij : j ≠ i) (ho : ∀ k, k < w.heap.size → own' k = own k) : RowO own' j w' e v cs :=
  ⟨(hc.others hk hij 0).1, fun k e => (ho k (hc.1.lt k e)).trans (hc.2 k e)⟩

theorem two_push_a (h : TwoAt B w0 a b n la lb own w) (hB : B = w0.heap.size) (src : Value) (xs : List Int) (hx : ReadsOff Nowhere w0 src (iv xs)) (hl : xs.length ≤ 9223372036854775807) :
    Calls Tryd.prog 8 #[a, src] w fun e w' => e = .returned (.int .i64 (Nat.min xs.length (n - la.length) : Nat)) ∧ (∃ own', TwoAt B w0 a b n (la ++ xs.take (n - la.length)) lb own' w' ∧ (∀ k, k < w.heap.size → own' k = own k)) ∧ Keeps (fun k => own k = 1) w w' := by
  refine (pushV h.ra src (iv xs) (h.ground.reads hx hB (by decide)) (by rw [iv_length]; exact hl) (iv_one xs)).mono ?_
  rintro e w' ⟨rfl, hr, hk⟩
  rw [iv_length, iv_length]
  rw [iv_take, iv_append, iv_length] at hr
  exact ⟨rfl, ⟨give own w.heap.size 1, ⟨h.ground.step hk (by decide) 1, RingO.mine0 hr, h.rb.others hk (by decide) 1⟩, fun _ h => give_old h⟩, hk⟩
theorem two_drop_a (h : TwoAt B w0 a b n la lb own w) (m : Int) :
    Calls Tryd.prog 21 #[a, .int .i64 m] w fun e w' => e = .returned (.int .i64 (Nat.min m.toNat la.length : Nat)) ∧ (∃ own', TwoAt B w0 a b n (la.drop m.toNat) lb own' w' ∧ (∀ k, k < w.heap.size → own' k = own k)) ∧ Keeps (fun k => own k = 1) w w' := by
  refine (dropV h.ra m).mono ?_
  rintro e w' ⟨rfl, hr, hk⟩
  rw [iv_length]
  rw [iv_drop] at hr
  exact ⟨rfl, ⟨give own w.heap.size 1, ⟨h.ground.step hk (by decide) 1, RingO.mine0 hr, h.rb.others hk (by decide) 1⟩, fun _ h => give_old h⟩, hk⟩
theorem two_clear_a (h : TwoAt B w0 a b n la lb own w) :
    Calls Tryd.prog 22 #[a] w fun e w' => e = .returned (.int .i64 la.length) ∧ (∃ own', TwoAt B w0 a b n (([] : List Int)) lb own' w' ∧ (∀ k, k < w.heap.size → own' k = own k)) ∧ Keeps (fun k => own k = 1) w w' := by
  refine (clearV h.ra).mono ?_
  rintro e w' ⟨rfl, hr, hk⟩
  rw [iv_length]
  exact ⟨rfl, ⟨give own w.heap.size 1, ⟨h.ground.step hk (by decide) 1, RingO.mine0 hr, h.rb.others hk (by decide) 1⟩, fun _ h => give_old h⟩, hk⟩
theorem two_pop_a (h : TwoAt B w0 a b n la lb own w) (m : Int) :
    Calls Tryd.prog 13 #[a, .int .i64 m] w fun e w' => ∃ s, e = .returned s ∧ (∃ own', TwoAt B w0 a b n (la.drop m.toNat) lb own' w' ∧ RowO own' 3 w' 3 s (iv (la.take m.toNat)) ∧ (∀ k, k < w.heap.size → own' k = own k)) ∧ Keeps (fun k => own k = 1) w w' := by
  refine (popV h.ra m).mono ?_
  rintro e w' ⟨s, z, rfl, hs, hz1, hz2, hfr, hr, hk⟩
  rw [iv_drop] at hr
  rw [iv_take] at hs
  have g2 : Ground B w0 (give (give own w.heap.size 3) z 1) w' := (h.ground.step hk (by decide) 3).give z 1 (Nat.le_trans h.ground.size hz1)
  have own2 : ∀ k, k < w.heap.size → give (give own w.heap.size 3) z 1 k = own k := fun k hlt => by rw [give_old (by omega), give_old hlt]
  refine ⟨s, rfl, ⟨_, ⟨g2, RingO.mine hr 3 hz1, ((h.rb.later hk (fun _ e _ e' => by omega)).mono (fun k hk' _ => (own2 k hk'.2).trans hk'.1))⟩, ⟨hs, fun k e => ?_⟩, own2⟩, hk⟩
  obtain ⟨h1, h2⟩ := hfr k e
  rw [give_old h2, give_new h1]
theorem two_push_b (h : TwoAt B w0 a b n la lb own w) (hB : B = w0.heap.size) (src : Value) (xs : List Int) (hx : ReadsOff Nowhere w0 src (iv xs)) (hl : xs.length ≤ 9223372036854775807) :
    Calls Tryd.prog 8 #[b, src] w fun e w' => e = .returned (.int .i64 (Nat.min xs.length (n - lb.length) : Nat)) ∧ (∃ own', TwoAt B w0 a b n la (lb ++ xs.take (n - lb.length)) own' w' ∧ (∀ k, k < w.heap.size → own' k = own k)) ∧ Keeps (fun k => own k = 2) w w' := by
  refine (pushV h.rb src (iv xs) (h.ground.reads hx hB (by decide)) (by rw [iv_length]; exact hl) (iv_one xs)).mono ?_
  rintro e w' ⟨rfl, hr, hk⟩
  rw [iv_length, iv_length]
  rw [iv_take, iv_append, iv_length] at hr
  exact ⟨rfl, ⟨give own w.heap.size 2, ⟨h.ground.step hk (by decide) 2, h.ra.others hk (by decide) 2, RingO.mine0 hr⟩, fun _ h => give_old h⟩, hk⟩
theorem two_drop_b (h : TwoAt B w0 a b n la lb own w) (m : Int) :
    Calls Tryd.prog 21 #[b, .int .i64 m] w fun e w' => e = .returned (.int .i64 (Nat.min m.toNat lb.length : Nat)) ∧ (∃ own', TwoAt B w0 a b n la (lb.drop m.toNat) own' w' ∧ (∀ k, k < w.heap.size → own' k = own k)) ∧ Keeps (fun k => own k = 2) w w' := by
  refine (dropV h.rb m).mono ?_
  rintro e w' ⟨rfl, hr, hk⟩
  rw [iv_length]
  rw [iv_drop] at hr
  exact ⟨rfl, ⟨give own w.heap.size 2, ⟨h.ground.step hk (by decide) 2, h.ra.others hk (by decide) 2, RingO.mine0 hr⟩, fun _ h => give_old h⟩, hk⟩
theorem two_clear_b (h : TwoAt B w0 a b n la lb own w) :
    Calls Tryd.prog 22 #[b] w fun e w' => e = .returned (.int .i64 lb.length) ∧ (∃ own', TwoAt B w0 a b n la (([] : List Int)) own' w' ∧ (∀ k, k < w.heap.size → own' k = own k)) ∧ Keeps (fun k => own k = 2) w w' := by
  refine (clearV h.rb).mono ?_
  rintro e w' ⟨rfl, hr, hk⟩
  rw [iv_length]
  exact ⟨rfl, ⟨give own w.heap.size 2, ⟨h.ground.step hk (by decide) 2, h.ra.others hk (by decide) 2, RingO.mine0 hr⟩, fun _ h => give_old h⟩, hk⟩
theorem two_pop_b (h : TwoAt B w0 a b n la lb own w) (m : Int) :
    Calls Tryd.prog 13 #[b, .int .i64 m] w fun e w' => ∃ s, e = .returned s ∧ (∃ own', TwoAt B w0 a b n la (lb.drop m.toNat) own' w' ∧ RowO own' 4 w' 3 s (iv (lb.take m.toNat)) ∧ (∀ k, k < w.heap.size → own' k = own k)) ∧ Keeps (fun k => own k = 2) w w' := by
  refine (popV h.rb m).mono ?_
  rintro e w' ⟨s, z, rfl, hs, hz1, hz2, hfr, hr, hk⟩
  rw [iv_drop] at hr
  rw [iv_take] at hs
  have g2 : Ground B w0 (give (give own w.heap.size 4) z 2) w' := (h.ground.step hk (by decide) 4).give z 2 (Nat.le_trans h.ground.size hz1)
  have own2 : ∀ k, k < w.heap.size → give (give own w.heap.size 4) z 2 k = own k := fun k hlt => by rw [give_old (by omega), give_old hlt]
  refine ⟨s, rfl, ⟨_, ⟨g2, ((h.ra.later hk (fun _ e _ e' => by omega)).mono (fun k hk' _ => (own2 k hk'.2).trans hk'.1)), RingO.mine hr 4 hz1⟩, ⟨hs, fun k e => ?_⟩, own2⟩, hk⟩
  obtain ⟨h1, h2⟩ := hfr k e
  rw [give_old h2, give_new h1]
end Go.Proofs.YtkmijhfimkcoiaaDoor
