/-
  package num by lists of numbers: what the laws' walks use
-/
import Derived.Test.YtjhjhmhhnifgmaaDoorNumGets
import Derived.OpenShut
namespace Go.Proofs.YtjhjhmhhnifgmaaDoor
open Go.RowKit

def be4 (v : Int) : List Int := [v / 16777216, v / 65536 % 256, v / 256 % 256, v % 256]
def be2 (v : Int) : List Int := [v / 256, v % 256]
def gX (n : Nat) (ns : List Int) : Int := if ns.length < n then 0 else (ns.take n).foldl (fun r x => r * 256 + x) 0
def gE (n : Nat) (ns : List Int) : Int := if ns.length < n then 3 else 0

/-- a slice of new memory: the block behind it bears the frozen range (0, 0) and just these cells -/
theorem holds_new {k : IntKind} (w : World) (ns : List Int) (t : TypeId) (n : Nat) (hn : ns.length = n) : Holds k (w.alloc (.cells (ns.map (Value.int k)).toArray t)) (.slice (some ⟨w.heap.size, 0, none⟩) n n) ns := by
  refine ⟨_, n, n, rfl, hn, fun i hi => ⟨_, rfl, ?_⟩⟩
  have hadd : (⟨w.heap.size, 0, none⟩ : Addr).add i = ⟨w.heap.size, i, none⟩ := by unfold Addr.add; split <;> simp_all
  have hi' : i < ns.length := by omega
  have hcells : (w.alloc (.cells (ns.map (Value.int k)).toArray t)).heap[w.heap.size]? = some (.cells (ns.map (Value.int k)).toArray t (0, 0)) := by
    show (w.heap.push _)[w.heap.size]? = _
    simp
  rw [hadd]
  unfold World.cell?
  rw [hcells]
  simp [hi', List.getD]

theorem alloc2_below (w : World) (x y : Obj) : Below w.heap.size w ((w.alloc x).alloc y) := ((Below.refl _ _).alloc (Nat.le_refl _) _).alloc (by simp) _

theorem be4_bytes (v : Int) (h0 : 0 ≤ v) (h1 : v ≤ 4294967295) : AreBytes (be4 v) := by
  intro n hn; simp [be4] at hn; omega
theorem be2_bytes (v : Int) (h0 : 0 ≤ v) (h1 : v ≤ 65535) : AreBytes (be2 v) := by
  intro n hn; simp [be2] at hn; omega

/-- the elements of a slice of bytes, one by one -/
theorem Holds.at {w : World} {a : Option Addr} {len cap : Nat} {ns : List Int} (h : Holds .u8 w (.slice a len cap) ns) (hpos : 0 < len) :
    ∃ b o, a = some ⟨b, o, none⟩ ∧ ∀ i, i < len → w.cell? ⟨b, o + i, none⟩ = some (.int .u8 (ns.getD i 0)) := by
  obtain ⟨a', len', cap', e, hl, hc⟩ := h
  cases e
  obtain ⟨x, rfl, h0⟩ := hc 0 hpos
  have hall : ∀ i, i < ns.length → w.cell? (x.add i) = some (.int .u8 (ns.getD i 0)) := fun i hi => by
    obtain ⟨y, hy, hcell⟩ := hc i (by omega)
    cases hy
    exact hcell
  obtain ⟨b, o, rfl, hc'⟩ := ints_at hall (by omega)
  exact ⟨b, o, rfl, fun i hi => by simpa using hc' i (by omega)⟩

theorem two_of (ns : List Int) (h : 2 ≤ ns.length) : gX 2 ns = ns.getD 0 0 * 256 + ns.getD 1 0 := by
  match ns, h with
  | x :: y :: r, _ =>
    have : ¬ (x :: y :: r).length < 2 := by simp
    simp only [gX, if_neg this]
    simp
theorem four_of (ns : List Int) (h : 4 ≤ ns.length) : gX 4 ns = ((ns.getD 0 0 * 256 + ns.getD 1 0) * 256 + ns.getD 2 0) * 256 + ns.getD 3 0 := by
  match ns, h with
  | x :: y :: z :: t :: r, _ =>
    have : ¬ (x :: y :: z :: t :: r).length < 4 := by simp
    simp only [gX, if_neg this]
    simp
theorem getD_byte {ns : List Int} (b : AreBytes ns) (i : Nat) : 0 ≤ ns.getD i 0 ∧ ns.getD i 0 ≤ 255 := by
  rw [List.getD_eq_getElem?_getD]
  cases h : ns[i]? with
  | none => simp
  | some n => simpa using b n (List.mem_of_getElem? h)

theorem get16_h {A : Nat → Addr} (v : Value) (ns : List Int) (w : World) (hs : Sents 116 codeVars A w) (hv : Holds .u8 w v ns) (hb : AreBytes ns) :
    Calls Tryd.prog 37 #[v] w fun e w' => ∃ u, e = .returned (.tuple #[.int .u16 (gX 2 ns), u]) ∧ Hid (Coded A u (gE 2 ns)) ∧ Below w.heap.size w w' := by
  obtain ⟨a, len, cap, rfl, hl, _⟩ := id hv
  by_cases h : ns.length < 2
  · refine (get16_short a len cap w hs (by omega)).mono ?_
    rintro e w' ⟨rfl, hb⟩
    exact ⟨_, by rw [gX, if_pos h], by rw [gE, if_pos h]; exact Coded.mk 2 3 (by decide) (by decide) rfl, hb⟩
  · obtain ⟨b, o, rfl, hc⟩ := hv.at (by omega)
    refine (get16_ok b o len cap w _ _ (by omega) (hc 0 (by omega)) (hc 1 (by omega)) (getD_byte hb 0).1 (getD_byte hb 0).2 (getD_byte hb 1).1 (getD_byte hb 1).2).mono ?_
    rintro e w' ⟨rfl, hb⟩
    exact ⟨_, by rw [two_of ns (by omega)], by rw [gE, if_neg h]; exact Coded.none, hb⟩
theorem get32_h {A : Nat → Addr} (v : Value) (ns : List Int) (w : World) (hs : Sents 116 codeVars A w) (hv : Holds .u8 w v ns) (hb : AreBytes ns) :
    Calls Tryd.prog 38 #[v] w fun e w' => ∃ u, e = .returned (.tuple #[.int .u32 (gX 4 ns), u]) ∧ Hid (Coded A u (gE 4 ns)) ∧ Below w.heap.size w w' := by
  obtain ⟨a, len, cap, rfl, hl, _⟩ := id hv
  by_cases h : ns.length < 4
  · refine (get32_short a len cap w hs (by omega)).mono ?_
    rintro e w' ⟨rfl, hb⟩
    exact ⟨_, by rw [gX, if_pos h], by rw [gE, if_pos h]; exact Coded.mk 2 3 (by decide) (by decide) rfl, hb⟩
  · obtain ⟨b, o, rfl, hc⟩ := hv.at (by omega)
    refine (get32_ok b o len cap w _ _ _ _ (by omega) (hc 0 (by omega)) (hc 1 (by omega)) (hc 2 (by omega)) (hc 3 (by omega)) (getD_byte hb 0).1 (getD_byte hb 0).2 (getD_byte hb 1).1 (getD_byte hb 1).2 (getD_byte hb 2).1 (getD_byte hb 2).2 (getD_byte hb 3).1 (getD_byte hb 3).2).mono ?_
    rintro e w' ⟨rfl, hb⟩
    exact ⟨_, by rw [four_of ns (by omega)], by rw [gE, if_neg h]; exact Coded.none, hb⟩
theorem refGet2_h (v : Value) (ns : List Int) (w : World) (hv : Holds .u8 w v ns) (hb : AreBytes ns) :
    Calls Tryd.prog 29 #[v, .int .i64 2] w fun e w' => e = .returned (.tuple #[.int .i64 (gX 2 ns), .int .i64 (gE 2 ns)]) ∧ w' = w := by
  obtain ⟨a, len, cap, rfl, hl, _⟩ := id hv
  by_cases h : ns.length < 2
  · rw [gX, if_pos h, gE, if_pos h]
    exact refGet_short a len cap 2 w (by omega)
  · obtain ⟨b, o, rfl, hc⟩ := hv.at (by omega)
    rw [two_of ns (by omega), gE, if_neg h]
    exact refGet_ok2 b o len cap w _ _ (by omega) (hc 0 (by omega)) (hc 1 (by omega)) (getD_byte hb 0).1 (getD_byte hb 0).2 (getD_byte hb 1).1 (getD_byte hb 1).2
theorem refGet4_h (v : Value) (ns : List Int) (w : World) (hv : Holds .u8 w v ns) (hb : AreBytes ns) :
    Calls Tryd.prog 29 #[v, .int .i64 4] w fun e w' => e = .returned (.tuple #[.int .i64 (gX 4 ns), .int .i64 (gE 4 ns)]) ∧ w' = w := by
  obtain ⟨a, len, cap, rfl, hl, _⟩ := id hv
  by_cases h : ns.length < 4
  · rw [gX, if_pos h, gE, if_pos h]
    exact refGet_short a len cap 4 w (by omega)
  · obtain ⟨b, o, rfl, hc⟩ := hv.at (by omega)
    rw [four_of ns (by omega), gE, if_neg h]
    exact refGet_ok4 b o len cap w _ _ _ _ (by omega) (hc 0 (by omega)) (hc 1 (by omega)) (hc 2 (by omega)) (hc 3 (by omega)) (getD_byte hb 0).1 (getD_byte hb 0).2 (getD_byte hb 1).1 (getD_byte hb 1).2 (getD_byte hb 2).1 (getD_byte hb 2).2 (getD_byte hb 3).1 (getD_byte hb 3).2
theorem gX2_bounds {ns : List Int} (hb : AreBytes ns) : 0 ≤ gX 2 ns ∧ gX 2 ns ≤ 65535 := by
  by_cases h : ns.length < 2
  · simp [gX, h]
  · rw [two_of ns (by omega)]
    have := getD_byte hb 0; have := getD_byte hb 1
    omega
theorem gX4_bounds {ns : List Int} (hb : AreBytes ns) : 0 ≤ gX 4 ns ∧ gX 4 ns ≤ 4294967295 := by
  by_cases h : ns.length < 4
  · simp [gX, h]
  · rw [four_of ns (by omega)]
    have := getD_byte hb 0; have := getD_byte hb 1; have := getD_byte hb 2; have := getD_byte hb 3
    omega
end Go.Proofs.YtjhjhmhhnifgmaaDoor
