import Derived.Test.YtbbldkldgjmmgaaGreatDoorTCode
import Derived.Test.YtbbldkldgjmmgaaGreatDoorBase
import Derived.WalkLawsBesides
import Derived.WalkSpells
import Derived.Deep.QuietTactic
import Derived.BigQuiet
import Derived.WalkSmall
import Derived.Laws.BitsAllLaws
import Derived.WalkKit
import Derived.Laws.BytesString
import Derived.Laws.CopyRow
import Derived.Laws.Strings
import Derived.Test.YtbbldkldgjmmgaaGreatDoorChecked
import Derived.OpenShut
/-
  package num: Bytes16, Bytes32.
-/
namespace Go.Proofs.YtbbldkldgjmmgaaGreatDoor
open Go.RowKit

theorem u8size : (Tryz.prog.info? 5).map (·.size) = some 1 := by kernel_rfl

set_option maxHeartbeats 1000000 in
/-- Bytes16: two new blocks, the array and the list -/
theorem bytes16_any (v : Int) (w : World) (h0 : 0 ≤ v) (h1 : v ≤ 65535) :
    Calls Tryz.prog 92 #[.int .u16 v] w fun e w' => e = .returned (.slice (some ⟨w.heap.size + 1, 0, none⟩) 2 2) ∧
      w' = (w.alloc (.cells #[.int .u8 (v / 256), .int .u8 (v % 256)] 184)).alloc (.cells #[.int .u8 (v / 256), .int .u8 (v % 256)] 5) := by
  have hmk : ∀ w, (Instr.makeSlice 32 (.int .i64 2) (.int .i64 2)).run Tryz.prog w = .ok (.slice (some ⟨w.heap.size, 0, none⟩) 2 2) (w.alloc (.cells #[.int .u8 0, .int .u8 0] 5)) := fun _ => by kernel_rfl
  have hcp := run_copy_new (P := Tryz.prog) w 32 32 3 5 184 5 [.int .u8 (v / 256), .int .u8 (v % 256)] [.int .u8 0, .int .u8 0] 2 rfl rfl Tryz.underlying32 u8size (by simp [Value.oneCell'])
  go_enter Tryz.func92, Tryz.ntmps92
  go_wp2
  go_ret
  exact ⟨rfl, rfl⟩

set_option maxHeartbeats 1000000 in
/-- Bytes32 -/
theorem bytes32_any (v : Int) (w : World) (h0 : 0 ≤ v) (h1 : v ≤ 4294967295) :
    Calls Tryz.prog 93 #[.int .u32 v] w fun e w' => e = .returned (.slice (some ⟨w.heap.size + 1, 0, none⟩) 4 4) ∧
      w' = (w.alloc (.cells #[.int .u8 (v / 16777216), .int .u8 (v / 65536 % 256), .int .u8 (v / 256 % 256), .int .u8 (v % 256)] 185)).alloc (.cells #[.int .u8 (v / 16777216), .int .u8 (v / 65536 % 256), .int .u8 (v / 256 % 256), .int .u8 (v % 256)] 5) := by
  have hmk : ∀ w, (Instr.makeSlice 32 (.int .i64 4) (.int .i64 4)).run Tryz.prog w = .ok (.slice (some ⟨w.heap.size, 0, none⟩) 4 4) (w.alloc (.cells #[.int .u8 0, .int .u8 0, .int .u8 0, .int .u8 0] 5)) := fun _ => by kernel_rfl
  have hcp := run_copy_new (P := Tryz.prog) w 32 32 3 5 185 5 [.int .u8 (v / 16777216), .int .u8 (v / 65536 % 256), .int .u8 (v / 256 % 256), .int .u8 (v % 256)] [.int .u8 0, .int .u8 0, .int .u8 0, .int .u8 0] 4 rfl rfl Tryz.underlying32 u8size (by simp [Value.oneCell'])
  go_enter Tryz.func93, Tryz.ntmps93
  go_wp2
  go_ret
  exact ⟨rfl, rfl⟩
end Go.Proofs.YtbbldkldgjmmgaaGreatDoor

/-
  package num: Get16, Get32
-/
namespace Go.Proofs.YtbbldkldgjmmgaaGreatDoor
open Go.RowKit

theorem or_join (k : Nat) (x y : Int) (hx : 0 ≤ x) (hm : x % 2 ^ k = 0) (hy : 0 ≤ y) (hy2 : y < 2 ^ k) : ((x.toNat ||| y.toNat : Nat) : Int) = x + y := by
  obtain ⟨a, rfl⟩ := Int.eq_ofNat_of_zero_le hx
  obtain ⟨b, rfl⟩ := Int.eq_ofNat_of_zero_le hy
  have e : a ||| b = a + b := nat_join k a b (by exact_mod_cast hm) (by exact_mod_cast hy2)
  simp only [Int.toNat_natCast, e]
  omega
theorem or16 (x y : Int) (hx : 0 ≤ x) (hx2 : x ≤ 255) (hy : 0 ≤ y) (hy2 : y ≤ 255) : bits .or .u16 (x * 256) y = x * 256 + y := by
  rw [u16_or _ _ (by omega) (by omega) hy (by omega)]
  exact or_join 8 _ _ (by omega) (by omega) hy (by omega)
theorem or32 (x y z t : Int) (hx : 0 ≤ x) (hx2 : x ≤ 255) (hy : 0 ≤ y) (hy2 : y ≤ 255) (hz : 0 ≤ z) (hz2 : z ≤ 255) (ht : 0 ≤ t) (ht2 : t ≤ 255) :
    bits .or .u32 (bits .or .u32 (bits .or .u32 (x * 16777216) (y * 65536)) (z * 256)) t = ((x * 256 + y) * 256 + z) * 256 + t := by
  rw [u32_or (x * 16777216) (y * 65536) (by omega) (by omega) (by omega) (by omega), or_join 24 _ _ (by omega) (by omega) (by omega) (by omega),
    u32_or (x * 16777216 + y * 65536) (z * 256) (by omega) (by omega) (by omega) (by omega), or_join 16 _ _ (by omega) (by omega) (by omega) (by omega),
    u32_or _ t (by omega) (by omega) (by omega) (by omega), or_join 8 _ _ (by omega) (by omega) (by omega) (by omega)]
  omega
theorem ret2_int {k : IntKind} {a b : Int} {v : Value} (h : a = b) : Ending.returned (.tuple #[.int k a, v]) = .returned (.tuple #[.int k b, v]) := by rw [h]

theorem get16_short {A : Nat → Addr} (a : Option Addr) (len cap : Nat) (w : World) (hs : SentO A w) (h : len < 2) :
    Calls Tryz.prog 100 #[.slice a len cap] w fun e w' => e = .returned (.tuple #[.int .u16 0, .iface 204 (.pointer (some (A 2)))]) ∧ Below w.heap.size w w' := by
  have hc := hs.cell 2 14 rfl
  clear hs
  have h' : (len : Int) < 2 := by omega
  go_enter Tryz.func100, Tryz.ntmps100
  go_wp2
  go_quiet (fail)
  go_wp2
  go_ret2
  exact ⟨rfl, below_drewN (Below.refl _ _) _⟩
theorem get16_ok (b o : Nat) (len cap : Nat) (w : World) (n0 n1 : Int) (h : 2 ≤ len)
    (c0 : w.cell? ⟨b, o, none⟩ = some (.int .u8 n0)) (c1 : w.cell? ⟨b, o + 1, none⟩ = some (.int .u8 n1)) (b0 : 0 ≤ n0) (b0' : n0 ≤ 255) (b1 : 0 ≤ n1) (b1' : n1 ≤ 255) :
    Calls Tryz.prog 100 #[.slice (some ⟨b, o, none⟩) len cap] w fun e w' => e = .returned (.tuple #[.int .u16 (n0 * 256 + n1), .nilIface]) ∧ Below w.heap.size w w' := by
  have h' : ¬ (len : Int) < 2 := by omega
  have l0 : (0 : Int) < (len : Int) := by omega
  have l1 : (1 : Int) < (len : Int) := by omega
  go_enter Tryz.func100, Tryz.ntmps100
  go_wp2
  go_quiet (fail)
  go_wp2
  go_ret2
  exact ⟨ret2_int (or16 n0 n1 b0 b0' b1 b1'), below_drewN (Below.refl _ _) _⟩
theorem get32_short {A : Nat → Addr} (a : Option Addr) (len cap : Nat) (w : World) (hs : SentO A w) (h : len < 4) :
    Calls Tryz.prog 101 #[.slice a len cap] w fun e w' => e = .returned (.tuple #[.int .u32 0, .iface 204 (.pointer (some (A 2)))]) ∧ Below w.heap.size w w' := by
  have hc := hs.cell 2 14 rfl
  clear hs
  have h' : (len : Int) < 4 := by omega
  go_enter Tryz.func101, Tryz.ntmps101
  go_wp2
  go_quiet (fail)
  go_wp2
  go_ret2
  exact ⟨rfl, below_drewN (Below.refl _ _) _⟩
set_option maxHeartbeats 1000000 in
theorem get32_ok (b o : Nat) (len cap : Nat) (w : World) (n0 n1 n2 n3 : Int) (h : 4 ≤ len)
    (c0 : w.cell? ⟨b, o, none⟩ = some (.int .u8 n0)) (c1 : w.cell? ⟨b, o + 1, none⟩ = some (.int .u8 n1)) (c2 : w.cell? ⟨b, o + 2, none⟩ = some (.int .u8 n2)) (c3 : w.cell? ⟨b, o + 3, none⟩ = some (.int .u8 n3))
    (b0 : 0 ≤ n0) (b0' : n0 ≤ 255) (b1 : 0 ≤ n1) (b1' : n1 ≤ 255) (b2 : 0 ≤ n2) (b2' : n2 ≤ 255) (b3 : 0 ≤ n3) (b3' : n3 ≤ 255) :
    Calls Tryz.prog 101 #[.slice (some ⟨b, o, none⟩) len cap] w fun e w' => e = .returned (.tuple #[.int .u32 (((n0 * 256 + n1) * 256 + n2) * 256 + n3), .nilIface]) ∧ Below w.heap.size w w' := by
  have h' : ¬ (len : Int) < 4 := by omega
  have l0 : (0 : Int) < (len : Int) := by omega
  have l1 : (1 : Int) < (len : Int) := by omega
  have l2 : (2 : Int) < (len : Int) := by omega
  have l3 : (3 : Int) < (len : Int) := by omega
  go_enter Tryz.func101, Tryz.ntmps101
  go_wp2
  go_quiet (fail)
  go_wp2
  go_ret2
  exact ⟨ret2_int (or32 n0 n1 n2 n3 b0 b0' b1 b1' b2 b2' b3 b3'), below_drewN (Below.refl _ _) _⟩
end Go.Proofs.YtbbldkldgjmmgaaGreatDoor

/-
  Slices of integers as lists of numbers; strings of bytes. Of whatever program.
-/
namespace Go.Proofs.YtbbldkldgjmmgaaGreatDoor
open Go.RowKit

/-- the slice value v holds the numbers ns (of kind k) in w -/
def Holds (k : IntKind) (w : World) (v : Value) (ns : List Int) : Prop :=
  ∃ a len cap, v = .slice a len cap ∧ ns.length = len ∧ ∀ i, i < len → ∃ x, a = some x ∧ w.cell? (x.add i) = some (.int k (ns.getD i 0))

theorem cell_lt {w : World} {p : Addr} {v : Value} (h : w.cell? p = some v) : p.block < w.heap.size := by
  rcases Nat.lt_or_ge p.block w.heap.size with h' | h'
  · exact h'
  · simp [World.cell?, Array.getElem?_eq_none h'] at h

/-- what a slice holds it holds still where the old blocks are as they were -/
theorem Holds.later {k : IntKind} {w w' : World} {v : Value} {ns : List Int} (h : Holds k w v ns) (hb : Below w.heap.size w w') : Holds k w' v ns := by
  obtain ⟨a, len, cap, rfl, hl, hc⟩ := h
  refine ⟨a, len, cap, rfl, hl, fun i hi => ?_⟩
  obtain ⟨x, hx, hcell⟩ := hc i hi
  exact ⟨x, hx, by rw [hb.cell (cell_lt hcell)]; exact hcell⟩

def strOf (ns : List Int) : ByteArray := ⟨(ns.map fun n => UInt8.ofNat n.toNat).toArray⟩

theorem foldl_push (ns : List Int) : ∀ s : ByteArray, ns.foldl (fun r n => r.push (UInt8.ofNat n.toNat)) s = ⟨s.data ++ (ns.map fun n => UInt8.ofNat n.toNat).toArray⟩ := by
  induction ns with
  | nil => intro s; simp
  | cons n ns ih =>
    intro s
    rw [List.foldl_cons, ih]
    simp [ByteArray.push]

theorem strOf_eq (ns : List Int) : ns.foldl (fun r n => r.push (UInt8.ofNat n.toNat)) ByteArray.empty = strOf ns := by
  rw [foldl_push]
  show (⟨#[] ++ _⟩ : ByteArray) = strOf ns
  rw [Array.empty_append]
  rfl

def AreBytes (ns : List Int) : Prop := ∀ n ∈ ns, 0 ≤ n ∧ n ≤ 255

theorem byte_inj {a b : Int} (ha : 0 ≤ a ∧ a ≤ 255) (hb : 0 ≤ b ∧ b ≤ 255) (h : UInt8.ofNat a.toNat = UInt8.ofNat b.toNat) : a = b := by
  have := congrArg UInt8.toNat h
  simp only [UInt8.toNat_ofNat'] at this
  omega

theorem strOf_inj : ∀ {a b : List Int}, AreBytes a → AreBytes b → (a.map fun n => UInt8.ofNat n.toNat) = (b.map fun n => UInt8.ofNat n.toNat) → a = b
  | [], [], _, _, _ => rfl
  | [], _ :: _, _, _, h => by simp at h
  | _ :: _, [], _, _, h => by simp at h
  | x :: a, y :: b, ha, hb, h => by
    simp only [List.map_cons, List.cons.injEq] at h
    rw [byte_inj (ha x (by simp)) (hb y (by simp)) h.1, strOf_inj (fun n hn => ha n (by simp [hn])) (fun n hn => hb n (by simp [hn])) h.2]

theorem run_bytesStr {P : Program} (w : World) (src dst e : TypeId) (v : Value) (ns : List Int) (hs : P.underlying src = some (.slice e)) (he : P.underlying e = some (.int .u8)) (hd : P.underlying dst = some .string)
    (h : Holds .u8 w v ns) : (convert src dst v).run P w = .ok (.string (strOf ns)) w := by
  obtain ⟨a, len, cap, rfl, hl, hc⟩ := h
  rw [run_convert_bytes_string w src dst e a len cap hs he hd]
  cases a with
  | none =>
    have h0 : len = 0 := by
      rcases Nat.eq_zero_or_pos len with h | h
      · exact h
      · obtain ⟨x, hx, _⟩ := hc 0 h; cases hx
    subst h0
    obtain rfl := List.eq_nil_of_length_eq_zero hl
    rfl
  | some x =>
    have hload := run_loadCells_list (P := P) w x (ns.map (Value.int .u8)) (by
      intro j v hj
      simp only [List.getElem?_map, Option.map_eq_some_iff] at hj
      obtain ⟨n, hn, rfl⟩ := hj
      have hjl : j < len := by
        have := (List.getElem?_eq_some_iff.1 hn).1
        omega
      obtain ⟨y, hy, hcell⟩ := hc j hjl
      cases hy
      rw [hcell]
      simp [List.getD, hn])
    rw [List.length_map, hl] at hload
    rw [run_bytesToString w x len cap ns (by simpa using hload), strOf_eq]

theorem strOf_toList (ns : List Int) : (strOf ns).toList = ns.map fun n => UInt8.ofNat n.toNat := by
  rw [ByteArray.toList_eq]; simp [strOf]

theorem strOf_beq {a b : List Int} (ha : AreBytes a) (hb : AreBytes b) : ((strOf a).toList == (strOf b).toList) = decide (a = b) := by
  rw [strOf_toList, strOf_toList]
  by_cases h : a = b
  · subst h; simp
  · rw [decide_eq_false h, beq_eq_false_iff_ne]
    exact fun e => h (strOf_inj ha hb e)
end Go.Proofs.YtbbldkldgjmmgaaGreatDoor

/-
  the document's SameBytes
-/
namespace Go.Proofs.YtbbldkldgjmmgaaGreatDoor
open Go.RowKit
end Go.Proofs.YtbbldkldgjmmgaaGreatDoor

/-
  the document's Get, Bytes
-/
namespace Go.Proofs.YtbbldkldgjmmgaaGreatDoor
open Go.RowKit

end Go.Proofs.YtbbldkldgjmmgaaGreatDoor

/-
  package num by lists of numbers: what the laws' walks use
-/
namespace Go.Proofs.YtbbldkldgjmmgaaGreatDoor
open Go.RowKit

def be4 (v : Int) : List Int := [v / 16777216, v / 65536 % 256, v / 256 % 256, v % 256]
def be2 (v : Int) : List Int := [v / 256, v % 256]
def gX (n : Nat) (ns : List Int) : Int := if ns.length < n then 0 else (ns.take n).foldl (fun r x => r * 256 + x) 0
def gE (n : Nat) (ns : List Int) : Int := if ns.length < n then 3 else 0

/-- a slice of new memory: the block behind it bears the frozen range (0, 0) and just these cells -/
theorem holds_new {k : IntKind} (w : World) (ns : List Int) (t : TypeId) (n : Nat) (hn : ns.length = n) : Holds k (w.alloc (.cells (ns.map (Value.int k)).toArray t)) (.slice (some ⟨w.heap.size, 0, none⟩) n n) ns := by
  refine ⟨_, n, n, rfl, hn, fun i hi => ⟨_, rfl, ?_⟩⟩
  have hadd : (⟨w.heap.size, 0, none⟩ : Addr).add i = ⟨w.heap.size, i, none⟩ := by unfold Addr.add; split <;> simp_all
  have hi' : i < ns.length := by omega
  have hcells : (w.alloc (.cells (ns.map (Value.int k)).toArray t)).heap[w.heap.size]? = some (.cells (ns.map (Value.int k)).toArray t (0, 0)) := by
    show (w.heap.push _)[w.heap.size]? = _
    simp
  rw [hadd]
  unfold World.cell?
  rw [hcells]
  simp [hi', List.getD]

theorem alloc2_below (w : World) (x y : Obj) : Below w.heap.size w ((w.alloc x).alloc y) := ((Below.refl _ _).alloc (Nat.le_refl _) _).alloc (by simp) _

theorem bytes32_h (v : Int) (w : World) (h0 : 0 ≤ v) (h1 : v ≤ 4294967295) :
    Calls Tryz.prog 93 #[.int .u32 v] w fun e w' => ∃ s, e = .returned s ∧ Hid (Holds .u8 w' s (be4 v)) ∧ Below w.heap.size w w' := by
  refine (bytes32_any v w h0 h1).mono ?_
  rintro e w' ⟨rfl, rfl⟩
  have h := holds_new (k := .u8) (w.alloc (.cells #[.int .u8 (v / 16777216), .int .u8 (v / 65536 % 256), .int .u8 (v / 256 % 256), .int .u8 (v % 256)] 185)) (be4 v) 5 4 rfl
  have hz : (w.alloc (.cells #[.int .u8 (v / 16777216), .int .u8 (v / 65536 % 256), .int .u8 (v / 256 % 256), .int .u8 (v % 256)] 185)).heap.size = w.heap.size + 1 := by simp
  rw [hz] at h
  exact ⟨_, rfl, h, alloc2_below _ _ _⟩
theorem bytes16_h (v : Int) (w : World) (h0 : 0 ≤ v) (h1 : v ≤ 65535) :
    Calls Tryz.prog 92 #[.int .u16 v] w fun e w' => ∃ s, e = .returned s ∧ Hid (Holds .u8 w' s (be2 v)) ∧ Below w.heap.size w w' := by
  refine (bytes16_any v w h0 h1).mono ?_
  rintro e w' ⟨rfl, rfl⟩
  have h := holds_new (k := .u8) (w.alloc (.cells #[.int .u8 (v / 256), .int .u8 (v % 256)] 184)) (be2 v) 5 2 rfl
  have hz : (w.alloc (.cells #[.int .u8 (v / 256), .int .u8 (v % 256)] 184)).heap.size = w.heap.size + 1 := by simp
  rw [hz] at h
  exact ⟨_, rfl, h, alloc2_below _ _ _⟩
theorem be4_bytes (v : Int) (h0 : 0 ≤ v) (h1 : v ≤ 4294967295) : AreBytes (be4 v) := by
  intro n hn; simp [be4] at hn; omega
theorem be2_bytes (v : Int) (h0 : 0 ≤ v) (h1 : v ≤ 65535) : AreBytes (be2 v) := by
  intro n hn; simp [be2] at hn; omega

/-- the elements of a slice of bytes, one by one -/
theorem Holds.at {w : World} {a : Option Addr} {len cap : Nat} {ns : List Int} (h : Holds .u8 w (.slice a len cap) ns) (hpos : 0 < len) :
    ∃ b o, a = some ⟨b, o, none⟩ ∧ ∀ i, i < len → w.cell? ⟨b, o + i, none⟩ = some (.int .u8 (ns.getD i 0)) := by
  obtain ⟨a', len', cap', e, hl, hc⟩ := h
  cases e
  obtain ⟨x, rfl, h0⟩ := hc 0 hpos
  have hall : ∀ i, i < ns.length → w.cell? (x.add i) = some (.int .u8 (ns.getD i 0)) := fun i hi => by
    obtain ⟨y, hy, hcell⟩ := hc i (by omega)
    cases hy
    exact hcell
  obtain ⟨b, o, rfl, hc'⟩ := ints_at hall (by omega)
  exact ⟨b, o, rfl, fun i hi => by simpa using hc' i (by omega)⟩

theorem two_of (ns : List Int) (h : 2 ≤ ns.length) : gX 2 ns = ns.getD 0 0 * 256 + ns.getD 1 0 := by
  match ns, h with
  | x :: y :: r, _ =>
    have : ¬ (x :: y :: r).length < 2 := by simp
    simp only [gX, if_neg this]
    simp
theorem four_of (ns : List Int) (h : 4 ≤ ns.length) : gX 4 ns = ((ns.getD 0 0 * 256 + ns.getD 1 0) * 256 + ns.getD 2 0) * 256 + ns.getD 3 0 := by
  match ns, h with
  | x :: y :: z :: t :: r, _ =>
    have : ¬ (x :: y :: z :: t :: r).length < 4 := by simp
    simp only [gX, if_neg this]
    simp
theorem getD_byte {ns : List Int} (b : AreBytes ns) (i : Nat) : 0 ≤ ns.getD i 0 ∧ ns.getD i 0 ≤ 255 := by
  rw [List.getD_eq_getElem?_getD]
  cases h : ns[i]? with
  | none => simp
  | some n => simpa using b n (List.mem_of_getElem? h)

theorem get16_h {A : Nat → Addr} (v : Value) (ns : List Int) (w : World) (hs : SentO A w) (hv : Holds .u8 w v ns) (hb : AreBytes ns) :
    Calls Tryz.prog 100 #[v] w fun e w' => ∃ u, e = .returned (.tuple #[.int .u16 (gX 2 ns), u]) ∧ Hid (Coded A u (gE 2 ns)) ∧ Below w.heap.size w w' := by
  obtain ⟨a, len, cap, rfl, hl, _⟩ := id hv
  by_cases h : ns.length < 2
  · refine (get16_short a len cap w hs (by omega)).mono ?_
    rintro e w' ⟨rfl, hb⟩
    exact ⟨_, by rw [gX, if_pos h], by rw [gE, if_pos h]; exact Coded.mk 2 3 (by decide) (by decide) rfl, hb⟩
  · obtain ⟨b, o, rfl, hc⟩ := hv.at (by omega)
    refine (get16_ok b o len cap w _ _ (by omega) (hc 0 (by omega)) (hc 1 (by omega)) (getD_byte hb 0).1 (getD_byte hb 0).2 (getD_byte hb 1).1 (getD_byte hb 1).2).mono ?_
    rintro e w' ⟨rfl, hb⟩
    exact ⟨_, by rw [two_of ns (by omega)], by rw [gE, if_neg h]; exact Coded.none, hb⟩
theorem get32_h {A : Nat → Addr} (v : Value) (ns : List Int) (w : World) (hs : SentO A w) (hv : Holds .u8 w v ns) (hb : AreBytes ns) :
    Calls Tryz.prog 101 #[v] w fun e w' => ∃ u, e = .returned (.tuple #[.int .u32 (gX 4 ns), u]) ∧ Hid (Coded A u (gE 4 ns)) ∧ Below w.heap.size w w' := by
  obtain ⟨a, len, cap, rfl, hl, _⟩ := id hv
  by_cases h : ns.length < 4
  · refine (get32_short a len cap w hs (by omega)).mono ?_
    rintro e w' ⟨rfl, hb⟩
    exact ⟨_, by rw [gX, if_pos h], by rw [gE, if_pos h]; exact Coded.mk 2 3 (by decide) (by decide) rfl, hb⟩
  · obtain ⟨b, o, rfl, hc⟩ := hv.at (by omega)
    refine (get32_ok b o len cap w _ _ _ _ (by omega) (hc 0 (by omega)) (hc 1 (by omega)) (hc 2 (by omega)) (hc 3 (by omega)) (getD_byte hb 0).1 (getD_byte hb 0).2 (getD_byte hb 1).1 (getD_byte hb 1).2 (getD_byte hb 2).1 (getD_byte hb 2).2 (getD_byte hb 3).1 (getD_byte hb 3).2).mono ?_
    rintro e w' ⟨rfl, hb⟩
    exact ⟨_, by rw [four_of ns (by omega)], by rw [gE, if_neg h]; exact Coded.none, hb⟩
theorem gX2_bounds {ns : List Int} (hb : AreBytes ns) : 0 ≤ gX 2 ns ∧ gX 2 ns ≤ 65535 := by
  by_cases h : ns.length < 2
  · simp [gX, h]
  · rw [two_of ns (by omega)]
    have := getD_byte hb 0; have := getD_byte hb 1
    omega
theorem gX4_bounds {ns : List Int} (hb : AreBytes ns) : 0 ≤ gX 4 ns ∧ gX 4 ns ≤ 4294967295 := by
  by_cases h : ns.length < 4
  · simp [gX, h]
  · rw [four_of ns (by omega)]
    have := getD_byte hb 0; have := getD_byte hb 1; have := getD_byte hb 2; have := getD_byte hb 3
    omega
end Go.Proofs.YtbbldkldgjmmgaaGreatDoor

/-
  A list of bytes of the call's own; append onto it. Of whatever program that has the types of bytes.
-/
namespace Go.Proofs.YtbbldkldgjmmgaaGreatDoor
open Go.RowKit

/-- the bytes ns, as values -/
def bv (ns : List Int) : List Value := ns.map (Value.int .u8)
theorem bv_length (ns : List Int) : (bv ns).length = ns.length := by simp [bv]
theorem bv_append (a b : List Int) : bv (a ++ b) = bv a ++ bv b := by simp [bv]
theorem bv_one (ns : List Int) : ∀ u ∈ bv ns, u.oneCell' = true := by
  intro u hu
  obtain ⟨n, _, rfl⟩ := List.mem_map.1 hu
  rfl
/-- a row of bytes of the call's own, in a block that is not below B -/
def OwnB (B : Nat) (w : World) (v : Value) (ns : List Int) : Prop := w.ownsRow B 5 1 v ns.length (bv ns)
theorem OwnB.holds {B : Nat} {w : World} {v : Value} {ns : List Int} (h : OwnB B w v ns) : Holds .u8 w v ns := by
  have h' : w.ownsRow B 5 1 v (bv ns).length (bv ns) := by rw [bv_length]; exact h
  obtain ⟨⟨a, c, rfl, hlc, hc⟩, _⟩ := owns_reads h'
  refine ⟨a, _, c, rfl, (bv_length ns).symm, fun i hi => ?_⟩
  rw [bv_length] at hi
  obtain ⟨x, hx, _, hce⟩ := hc i (.int .u8 (ns.getD i 0)) (by simp [bv, List.getD, hi])
  exact ⟨x, hx, hce⟩
theorem OwnB.shape {B : Nat} {w : World} {v : Value} {ns : List Int} (h : OwnB B w v ns) : ∃ p c, v = .slice p ns.length c := by
  obtain ⟨p, l, c, rfl, hl, _⟩ := h.holds
  exact ⟨p, c, by rw [hl]⟩
/-- it stays where the blocks that are there stay -/
theorem OwnB.later {B : Nat} {w w' : World} {v : Value} {ns : List Int} (h : OwnB B w v ns) (hb : Below w.heap.size w w') : OwnB B w' v ns :=
  owns_later h (Keeps.ofBelow (S := Nowhere) hb) (fun _ _ x => x)
theorem OwnB.mono {B B' : Nat} {w : World} {v : Value} {ns : List Int} (h : OwnB B w v ns) (hB : B' ≤ B) : OwnB B' w v ns := by
  refine ⟨h.1, ?_⟩
  rcases h.2 with h0 | ⟨g, cap, cur, rfl, hb, rest⟩
  · exact .inl h0
  · exact .inr ⟨g, cap, cur, rfl, Nat.le_trans hB hb, rest⟩
/-- a slice of bytes that can be read -/
def Rd (w : World) (v : Value) (ns : List Int) : Prop := ReadsOff Nowhere w v (bv ns) ∧ NilOk v
theorem Rd.later {w w' : World} {v : Value} {ns : List Int} (h : Rd w v ns) (hb : Below w.heap.size w w') : Rd w' v ns :=
  ⟨(h.1.later (Keeps.ofBelow (S := Nowhere) hb)).mono (fun _ x _ => x.elim), h.2⟩
theorem Rd.holds {w : World} {v : Value} {ns : List Int} (h : Rd w v ns) : Holds .u8 w v ns := by
  obtain ⟨⟨a, c, rfl, hlc, hc⟩, _⟩ := h
  refine ⟨a, _, c, rfl, (bv_length ns).symm, fun i hi => ?_⟩
  rw [bv_length] at hi
  obtain ⟨x, hx, _, hce⟩ := hc i (.int .u8 (ns.getD i 0)) (by simp [bv, List.getD, hi])
  exact ⟨x, hx, hce⟩
theorem OwnB.rd {B : Nat} {w : World} {v : Value} {ns : List Int} (h : OwnB B w v ns) : Rd w v ns := by
  have h' : w.ownsRow B 5 1 v (bv ns).length (bv ns) := by rw [bv_length]; exact h
  obtain ⟨h1, h2⟩ := owns_reads h'
  exact ⟨h1.mono (fun _ x _ => x.elim), h2⟩
theorem Rd.shape {w : World} {v : Value} {ns : List Int} (h : Rd w v ns) : ∃ p c, v = .slice p ns.length c := by
  obtain ⟨⟨a, c, rfl, _⟩, _⟩ := h
  exact ⟨a, c, by rw [bv_length]⟩
theorem u8info : (Tryz.prog.info? 5).map (fun i => (i.zero, i.size, i.bytes)) = some (some (.int .u8 0), 1, 1) := by kernel_rfl
/-- append(v, sv...) -/
theorem wpList_appendB {W : World} {ops : Array Oper} {rest : List Oper} {o : Oper} {a : Act} {Q : Exit → Act → World → Prop} (hgd : o.guard = none) (s x : Operand)
    (ho : o.op = .call { callee := .builtin .append, args := #[s, x], argTypes := #[32, 32] }) (B : Nat) (v sv : Value) (ns ms : List Int) (hown : OwnB B W v ns) (hr : Rd W sv ms)
    (hb : ns.length + ms.length ≤ 140737488355328) (hB : B ≤ W.heap.size) (hs : a.eval s = v) (hx : a.eval x = sv)
    (h : ∀ v' w', Aside (OwnB B w' v' (ns ++ ms)) → Aside (Below B W w') → wpList Tryz.prog ops Q rest (a.put o.dst v') w') : wpList Tryz.prog ops Q (o :: rest) a W := by
  obtain ⟨i, hi, hz0, hz1, hz2⟩ := info_parts u8info
  have hown' : W.ownsRow B 5 1 v (bv ns).length (bv ns) := by rw [bv_length]; exact hown
  obtain ⟨v', w', run, o', g'⟩ := run_appendK (P := Tryz.prog) W B 32 5 i _ 1 Tryz.underlying32 hi hz0 hz1 hz2 rfl v (bv ns) hown' sv (bv ms) hr.1 hr.2 (bv_one ms) (by rw [bv_length, bv_length]; omega) (by rw [bv_length, bv_length]; unfold maxLen; omega) hB
  refine wpList_appendK hgd s x 32 ho v sv v' w' hs hx run (h v' w' ⟨?_⟩ ⟨?_⟩)
  · rw [← bv_append, bv_length] at o'
    exact o'
  · refine (grown_keeps g').below hB (fun k hk => ?_)
    exact owns_base hown k hk
end Go.Proofs.YtbbldkldgjmmgaaGreatDoor

