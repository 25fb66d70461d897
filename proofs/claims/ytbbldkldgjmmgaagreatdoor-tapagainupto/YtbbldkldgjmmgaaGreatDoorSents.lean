/-
  Sentinels of errors.New's make, as many as a row lists: each variable's cell, the pointer's block, and that no two pointers are one. Of whatever program.
-/
import Derived.Stop.LaidErr
import Derived.Stop.Joined
import Derived.Below
namespace Go.Proofs.YtbbldkldgjmmgaaGreatDoor
open Go Go.RowKit

/-- a listed sentinel's datum -/
def sentRow (nm : String) (x : String × List UInt8) : String × DataW Unit := (x.1, .iface nm (.ptr (.agg [.lit (.string x.2)])))

/-- what the walks want of the sentinels: A i is the address behind the i-th listed variable -/
structure Sents (tp : TypeId) (G : List Nat) (A : Nat → Addr) (W : World) : Prop where
  cell : ∀ i g, G[i]? = some g → W.cell? ⟨g, 0, none⟩ = some (.iface tp (.pointer (some (A i))))
  row : ∀ i, i < G.length → ∃ c t, W.heap[(A i).block]? = some (.cells c t (0, 0))
  ne : ∀ i j, i < G.length → j < G.length → i ≠ j → A i ≠ A j

theorem sents_of_vars {P : Program} {W : World} {nm : String} {ti tp te ts : TypeId} {ms : Array (String × TypeId)} {f : Field}
    (hi : P.underlying ti = some (.interface ms)) (hrow : ∀ u, P.typeName? 3 u = some nm → u = tp)
    (hp : P.underlying tp = some (.pointer te)) (he : P.underlying te = some (.struct #[f])) (hft : f.type = ts) (hfo : f.offset = 0) (hs : P.underlying ts = some .string) (hc : P.cellsOf te = 1) (hcs : P.cellsOf ts = 1) :
    ∀ (L : List (String × List UInt8)) (G : List Nat) (ps : List MemPlace),
      L.map (fun x => P.globalNamed x.1) = G.map some → (∀ g ∈ G, (P.globals[g]?).map (·.type) = some ti) →
      DataW.LaidVars P W (L.map (sentRow nm)) ps → ps.Nodup →
      (∀ b off, MemPlace.cell b off ∈ ps → (∃ c t, W.heap[b]? = some (.cells c t (0, 0))) ∧ ∀ u v, W.cell? ⟨b, off, none⟩ = some (.iface u v) → Value.okWide P W .any 0 u v) →
      ∃ A : Nat → Addr, Sents tp G A W ∧ ∀ i, i < G.length → MemPlace.cell (A i).block (A i).off ∈ ps := by
  intro L
  induction L with
  | nil =>
    intro G ps hG _ _ _ _
    have : G = [] := by cases G with
      | nil => rfl
      | cons a b => simp at hG
    subst this
    exact ⟨fun _ => ⟨0, 0, none⟩, ⟨fun i g h => by simp at h, fun i h => by simp at h, fun i j h => by simp at h⟩, fun i h => by simp at h⟩
  | cons x L ih =>
    intro G ps hG hT hV hnd hrows
    cases G with
    | nil => simp at hG
    | cons g0 G =>
      simp only [List.map_cons, List.cons.injEq] at hG
      obtain ⟨hg0, hG⟩ := hG
      obtain ⟨g, t, cs, fuel, p, q, hg, ht, hv, hd, hq, rfl⟩ := hV
      obtain rfl := Option.some.inj (hg0.symm.trans hg)
      obtain rfl := Option.some.inj ((hT g0 (by simp)).symm.trans ht)
      obtain ⟨l⟩ := cs
      have ok : ∀ u v, l = [.iface u v] → Value.okWide P W .any 0 u v := fun u v e => by
        subst e
        exact (hrows g0 0 (by simp [MemPlace.row])).2 u v (by simpa using World.var?_cell hg hv 0)
      obtain ⟨a, s, rfl, hca, hsa, hza, rfl⟩ := errorString_of_trod hi hrow hp he hft hfo hs hc hcs hd ok
      obtain ⟨A, hA, hpl⟩ := ih G q hG (fun g h => hT g (by simp [h])) hq (List.Nodup.sublist (List.sublist_append_right _ _) hnd) (fun b off hm => hrows b off (by simp [hm]))
      have hc0 : W.cell? ⟨g0, 0, none⟩ = some (.iface tp (.pointer (some a))) := by simpa using World.var?_cell hg hv 0
      have hnd' : MemPlace.cell a.block a.off ∉ q := by
        intro hm
        have := hnd
        simp only [List.nodup_append] at this
        exact this.2.2 (MemPlace.cell a.block a.off) (by simp [MemPlace.row]) (MemPlace.cell a.block a.off) hm rfl
      have hlt : ∀ i, i + 1 < (g0 :: G).length → i < G.length := fun i h => by simpa using h
      refine ⟨fun i => match i with | 0 => a | i + 1 => A i, ⟨?_, ?_, ?_⟩, ?_⟩
      · intro i g h
        cases i with
        | zero => simp only [List.getElem?_cons_zero, Option.some.injEq] at h; subst h; exact hc0
        | succ i => simp only [List.getElem?_cons_succ] at h; exact hA.cell i g h
      · intro i h
        cases i with
        | zero => exact (hrows a.block a.off (by simp [MemPlace.row])).1
        | succ i => exact hA.row i (hlt i h)
      · intro i j h1 h2 hne
        cases i with
        | zero =>
          cases j with
          | zero => exact absurd rfl hne
          | succ j => intro e; apply hnd'; have := hpl j (hlt j h2); rw [← show a = A j from e] at this; exact this
        | succ i =>
          cases j with
          | zero => intro e; apply hnd'; have := hpl i (hlt i h1); rw [show A i = a from e] at this; exact this
          | succ j => exact hA.ne i j (hlt i h1) (hlt j h2) (by omega)
      · intro i h
        cases i with
        | zero => simp [MemPlace.row]
        | succ i => have := hpl i (hlt i h); simp [this]

theorem sents_of_laid {P : Program} {W : World} {nm : String} {ti tp te ts : TypeId} {ms : Array (String × TypeId)} {f : Field}
    (hi : P.underlying ti = some (.interface ms)) (hrow : ∀ u, P.typeName? 3 u = some nm → u = tp)
    (hp : P.underlying tp = some (.pointer te)) (he : P.underlying te = some (.struct #[f])) (hft : f.type = ts) (hfo : f.offset = 0) (hs : P.underlying ts = some .string) (hc : P.cellsOf te = 1) (hcs : P.cellsOf ts = 1)
    (L : List (String × List UInt8)) (G : List Nat) (hG : L.map (fun x => P.globalNamed x.1) = G.map some) (hT : ∀ g ∈ G, (P.globals[g]?).map (·.type) = some ti)
    (h : laidMet P (L.map (sentRow nm)) W) : ∃ A : Nat → Addr, Sents tp G A W := by
  obtain ⟨ps, hV, hnd, hrows⟩ := h
  obtain ⟨A, hA, _⟩ := sents_of_vars hi hrow hp he hft hfo hs hc hcs L G ps hG hT hV hnd hrows
  exact ⟨A, hA⟩

/-- the sentinels stay behind whatever leaves the old blocks alone -/
theorem Sents.later {tp : TypeId} {G : List Nat} {A : Nat → Addr} {W W' : World} (h : Sents tp G A W) (hb : Below W.heap.size W W') : Sents tp G A W' := by
  refine ⟨fun i g hi => ?_, fun i hi => ?_, h.ne⟩
  · have := h.cell i g hi
    have hlt : g < W.heap.size := by
      rcases Nat.lt_or_ge g W.heap.size with h' | h'
      · exact h'
      · simp [World.cell?, Array.getElem?_eq_none h'] at this
    rw [← this]
    exact hb.cell (p := ⟨g, 0, none⟩) hlt
  · obtain ⟨c, t, hr⟩ := h.row i hi
    have hlt : (A i).block < W.heap.size := by
      rcases Nat.lt_or_ge (A i).block W.heap.size with h' | h'
      · exact h'
      · simp [Array.getElem?_eq_none h'] at hr
    exact ⟨c, t, by rw [hb.block _ hlt]; exact hr⟩
end Go.Proofs.YtbbldkldgjmmgaaGreatDoor
