/-
  Slices of integers as lists of numbers; strings of bytes. Of whatever program.
-/
import Derived.WalkKit
import Derived.Laws.BytesString
import Derived.Laws.CopyRow
import Derived.Laws.Strings
namespace Go.Proofs.YtnocalkloinbbaaDoor
open Go.RowKit

/-- the slice value v holds the numbers ns (of kind k) in w -/
def Holds (k : IntKind) (w : World) (v : Value) (ns : List Int) : Prop :=
  ∃ a len cap, v = .slice a len cap ∧ ns.length = len ∧ ∀ i, i < len → ∃ x, a = some x ∧ w.cell? (x.add i) = some (.int k (ns.getD i 0))

theorem cell_lt {w : World} {p : Addr} {v : Value} (h : w.cell? p = some v) : p.block < w.heap.size := by
  rcases Nat.lt_or_ge p.block w.heap.size with h' | h'
  · exact h'
  · simp [World.cell?, Array.getElem?_eq_none h'] at h

/-- what a slice holds it holds still where the old blocks are as they were -/
theorem Holds.later {k : IntKind} {w w' : World} {v : Value} {ns : List Int} (h : Holds k w v ns) (hb : Below w.heap.size w w') : Holds k w' v ns := by
  obtain ⟨a, len, cap, rfl, hl, hc⟩ := h
  refine ⟨a, len, cap, rfl, hl, fun i hi => ?_⟩
  obtain ⟨x, hx, hcell⟩ := hc i hi
  exact ⟨x, hx, by rw [hb.cell (cell_lt hcell)]; exact hcell⟩

def strOf (ns : List Int) : ByteArray := ⟨(ns.map fun n => UInt8.ofNat n.toNat).toArray⟩

theorem foldl_push (ns : List Int) : ∀ s : ByteArray, ns.foldl (fun r n => r.push (UInt8.ofNat n.toNat)) s = ⟨s.data ++ (ns.map fun n => UInt8.ofNat n.toNat).toArray⟩ := by
  induction ns with
  | nil => intro s; simp
  | cons n ns ih =>
    intro s
    rw [List.foldl_cons, ih]
    simp [ByteArray.push]

theorem strOf_eq (ns : List Int) : ns.foldl (fun r n => r.push (UInt8.ofNat n.toNat)) ByteArray.empty = strOf ns := by
  rw [foldl_push]
  show (⟨#[] ++ _⟩ : ByteArray) = strOf ns
  rw [Array.empty_append]
  rfl

def AreBytes (ns : List Int) : Prop := ∀ n ∈ ns, 0 ≤ n ∧ n ≤ 255

theorem byte_inj {a b : Int} (ha : 0 ≤ a ∧ a ≤ 255) (hb : 0 ≤ b ∧ b ≤ 255) (h : UInt8.ofNat a.toNat = UInt8.ofNat b.toNat) : a = b := by
  have := congrArg UInt8.toNat h
  simp only [UInt8.toNat_ofNat'] at this
  omega

theorem strOf_inj : ∀ {a b : List Int}, AreBytes a → AreBytes b → (a.map fun n => UInt8.ofNat n.toNat) = (b.map fun n => UInt8.ofNat n.toNat) → a = b
  | [], [], _, _, _ => rfl
  | [], _ :: _, _, _, h => by simp at h
  | _ :: _, [], _, _, h => by simp at h
  | x :: a, y :: b, ha, hb, h => by
    simp only [List.map_cons, List.cons.injEq] at h
    rw [byte_inj (ha x (by simp)) (hb y (by simp)) h.1, strOf_inj (fun n hn => ha n (by simp [hn])) (fun n hn => hb n (by simp [hn])) h.2]

theorem run_bytesStr {P : Program} (w : World) (src dst e : TypeId) (v : Value) (ns : List Int) (hs : P.underlying src = some (.slice e)) (he : P.underlying e = some (.int .u8)) (hd : P.underlying dst = some .string)
    (h : Holds .u8 w v ns) : (convert src dst v).run P w = .ok (.string (strOf ns)) w := by
  obtain ⟨a, len, cap, rfl, hl, hc⟩ := h
  rw [run_convert_bytes_string w src dst e a len cap hs he hd]
  cases a with
  | none =>
    have h0 : len = 0 := by
      rcases Nat.eq_zero_or_pos len with h | h
      · exact h
      · obtain ⟨x, hx, _⟩ := hc 0 h; cases hx
    subst h0
    obtain rfl := List.eq_nil_of_length_eq_zero hl
    rfl
  | some x =>
    have hload := run_loadCells_list (P := P) w x (ns.map (Value.int .u8)) (by
      intro j v hj
      simp only [List.getElem?_map, Option.map_eq_some_iff] at hj
      obtain ⟨n, hn, rfl⟩ := hj
      have hjl : j < len := by
        have := (List.getElem?_eq_some_iff.1 hn).1
        omega
      obtain ⟨y, hy, hcell⟩ := hc j hjl
      cases hy
      rw [hcell]
      simp [List.getD, hn])
    rw [List.length_map, hl] at hload
    rw [run_bytesToString w x len cap ns (by simpa using hload), strOf_eq]

theorem strOf_toList (ns : List Int) : (strOf ns).toList = ns.map fun n => UInt8.ofNat n.toNat := by
  rw [ByteArray.toList_eq]; simp [strOf]

theorem strOf_beq {a b : List Int} (ha : AreBytes a) (hb : AreBytes b) : ((strOf a).toList == (strOf b).toList) = decide (a = b) := by
  rw [strOf_toList, strOf_toList]
  by_cases h : a = b
  · subst h; simp
  · rw [decide_eq_false h, beq_eq_false_iff_ne]
    exact fun e => h (strOf_inj ha hb e)
end Go.Proofs.YtnocalkloinbbaaDoor
