/-
  A stream as the document has it, in numbers and lists: of whatever program.
-/
import Derived.Test.YteghehhifebhcaaDoorBase
namespace Go.Proofs.YteghehhifebhcaaDoor

structure Dm where
  id : Int
  win : Nat
  stage : Nat
  frame : Int
  mine : Bool
  acc : Bool
  staged : List Int
  closing : Bool
  last : Bool
  credit : Int
  unread : List Int
  left : Int
  owed : Int
  heard : Bool
  told : Bool
  drop : Bool
  cut : Bool

namespace Dm
/-- no more goes out; no more comes in -/
def off (d : Dm) : Bool := d.drop || d.cut || d.last
def deaf (d : Dm) : Bool := d.drop || d.cut || d.heard
def gone (d : Dm) : Int := if d.drop then 26 else if d.cut then 27 else 0
def state (d : Dm) : Int := if d.drop then 7 else if d.last && d.heard then 6 else if d.last then 4 else if d.heard then 5 else if d.acc then 3 else if d.mine then 1 else 2
structure Ok (d : Dm) : Prop where
  id1 : 1 ≤ d.id
  id2 : d.id ≤ 4294967295
  win1 : 1 ≤ d.win
  win2 : d.win ≤ 2147483647
  stage1 : 1 ≤ d.stage
  stage2 : d.stage ≤ 1048576
  frame1 : 1 ≤ d.frame
  frame2 : d.frame ≤ 65536
  cr1 : 0 ≤ d.credit
  cr2 : d.credit ≤ d.win
  st : d.staged.length ≤ d.stage
  un : d.unread.length ≤ d.win
  off : d.off = true → d.staged = []
  gon : d.drop = true → d.unread = []
  lst : d.last = true → d.closing = true
  l0 : 0 ≤ d.left
  o0 : 0 ≤ d.owed
  sum : d.deaf = false → d.left + d.unread.length + d.owed = d.win
  ow : d.owed < ((d.win : Int) + 1) / 2

def new (id : Int) (win stage : Nat) (frame : Int) (mine : Bool) : Dm := ⟨id, win, stage, frame, mine, false, [], false, false, win, [], win, 0, false, false, false, false⟩
theorem new_ok {id : Int} {win stage : Nat} {frame : Int} {mine : Bool} (h1 : 1 ≤ id) (h2 : id ≤ 4294967295) (h3 : 1 ≤ win) (h4 : win ≤ 2147483647) (h5 : 1 ≤ stage) (h6 : stage ≤ 1048576) (h7 : 1 ≤ frame) (h8 : frame ≤ 65536) : (new id win stage frame mine).Ok :=
  ⟨h1, h2, h3, h4, h5, h6, h7, h8, by simp [new], by simp [new], by simp [new], by simp [new], by simp [new], by simp [new], by simp [new], by simp [new], by simp [new], by simp [new, deaf], by simp only [new]; omega⟩

def accE (d : Dm) : Int := if d.drop then 26 else if d.cut then 27 else if d.acc then 23 else 0
def accD (d : Dm) : Dm := if d.drop || d.cut || d.acc then d else { d with acc := true }
def wrE (d : Dm) : Int := if d.drop then 26 else if d.cut then 27 else if d.closing then 24 else 0
def wrN (d : Dm) (xs : List Int) : Nat := if d.drop || d.cut || d.closing then 0 else min xs.length (d.stage - d.staged.length)
def wrD (d : Dm) (xs : List Int) : Dm := if d.drop || d.cut || d.closing then d else { d with staged := d.staged ++ xs.take (d.stage - d.staged.length) }
def clD (d : Dm) : Dm := if d.drop || d.cut || d.closing then d else { d with closing := true }
def rdE (d : Dm) (n : Int) : Int := if n < 0 then 2 else if d.drop then 26 else if n = 0 then 0 else if d.unread = [] then (if d.heard then 25 else if d.cut then 27 else 0) else 0
def rdK (d : Dm) (n : Int) : Nat := min n.toNat d.unread.length
def rdG (d : Dm) (n : Int) : Int := if d.deaf then 0 else if d.owed + d.rdK n < ((d.win : Int) + 1) / 2 then 0 else d.owed + d.rdK n
def rdO (d : Dm) (n : Int) : Int := if d.deaf then d.owed else if d.owed + d.rdK n < ((d.win : Int) + 1) / 2 then d.owed + d.rdK n else 0
def rdD (d : Dm) (n : Int) : Dm := if d.rdE n = 25 then { d with told := true } else { d with unread := d.unread.drop (d.rdK n), owed := d.rdO n, left := d.left + d.rdG n }
def ready (d : Dm) : Bool := !d.off && (d.mine || d.acc) && (if d.staged = [] then d.closing else decide (0 < d.credit))
def frK (d : Dm) : Nat := min (min d.staged.length d.credit.toNat) d.frame.toNat
def frL (d : Dm) : Bool := d.closing && decide (d.staged.length ≤ d.frK)
def frD (d : Dm) : Dm := if d.ready then { d with staged := d.staged.drop d.frK, credit := d.credit - d.frK, last := d.frL } else d
def ends (d : Dm) : Dm := { d with heard := true, left := 0, owed := 0 }
def arE (d : Dm) (n : Int) : Int := if d.deaf then 0 else if d.left < n then 16 else 0
def arD (d : Dm) (xs : List Int) (fin : Bool) : Dm :=
  if d.deaf then d else if d.left < xs.length then d else if fin then ends { d with unread := d.unread ++ xs, left := d.left - xs.length } else { d with unread := d.unread ++ xs, left := d.left - xs.length }
def grE (d : Dm) (n : Int) : Int := if d.off then 0 else if (d.win : Int) < d.credit + n then 17 else 0
def grC (d : Dm) (n : Int) : Int := if d.off then d.credit else d.credit + n
def grD (d : Dm) (n : Int) (fin : Bool) : Dm :=
  if d.drop || d.cut then d else if d.grE n = 17 then d else if fin && !d.heard then ends { d with credit := d.grC n } else { d with credit := d.grC n }
def dropD (d : Dm) : Dm := { d with drop := true, staged := [], unread := [] }
def cutD (d : Dm) : Dm := if d.drop then d else { d with cut := true, staged := [] }
def quiet (d : Dm) : Bool := !d.drop && d.last && d.heard
def done (d : Dm) : Bool := if d.drop then true else if d.cut then d.told else d.quiet && d.told
def held (d : Dm) : Nat := d.staged.length + d.unread.length
def vCredit (d : Dm) : Int := if d.off then 0 else d.credit
def vLeft (d : Dm) : Int := if d.deaf then 0 else d.left
def vOwed (d : Dm) : Int := if d.deaf then 0 else d.owed

section
variable {d : Dm}
theorem state_range (d : Dm) : 1 ≤ d.state ∧ d.state ≤ 7 := by
  unfold state
  repeat' split
  all_goals omega
theorem state_drop (d : Dm) : (d.state == 7) = d.drop := by
  obtain ⟨_, _, _, _, mine, acc, _, _, last, _, _, _, _, heard, _, drop, _⟩ := d
  unfold state
  cases drop <;> cases last <;> cases heard <;> cases acc <;> cases mine <;> rfl
theorem state_closed (d : Dm) : (d.state == 6) = d.quiet := by
  obtain ⟨_, _, _, _, mine, acc, _, _, last, _, _, _, _, heard, _, drop, _⟩ := d
  unfold state quiet
  cases drop <;> cases last <;> cases heard <;> cases acc <;> cases mine <;> rfl
theorem accD_ok (h : d.Ok) : d.accD.Ok := by
  unfold accD
  split
  · exact h
  · exact { h with off := h.off, gon := h.gon, lst := h.lst, sum := h.sum }
theorem wrD_ok (h : d.Ok) (xs : List Int) : (d.wrD xs).Ok := by
  unfold wrD
  split
  · exact h
  · rename_i c
    have h0 := h.st
    refine { h with st := ?_, off := ?_, gon := h.gon, lst := h.lst, sum := h.sum }
    · simp only [List.length_append, List.length_take]; omega
    · intro o
      exfalso
      have l := h.lst
      simp only [off] at o
      revert c o l
      cases d.drop <;> cases d.cut <;> cases d.closing <;> cases d.last <;> simp
theorem clD_ok (h : d.Ok) : d.clD.Ok := by
  unfold clD
  split
  · exact h
  · exact { h with off := h.off, gon := h.gon, lst := fun _ => rfl, sum := h.sum }
theorem rdG_nonneg (h : d.Ok) (n : Int) : 0 ≤ d.rdG n := by
  have := h.o0
  unfold rdG
  repeat' split
  all_goals omega
theorem rdD_ok (h : d.Ok) (n : Int) : (d.rdD n).Ok := by
  unfold rdD
  split
  · exact { h with off := h.off, gon := h.gon, lst := h.lst, sum := h.sum }
  · have g0 := rdG_nonneg h n
    have a := h.un
    have b := h.ow
    have o0 := h.o0
    have l0 := h.l0
    have w1 := h.win1
    refine { h with un := ?_, off := h.off, gon := ?_, lst := h.lst, l0 := ?_, o0 := ?_, sum := ?_, ow := ?_ }
    · simp only [List.length_drop]; omega
    · intro x
      simp only [h.gon x, List.drop_nil]
    · show 0 ≤ d.left + d.rdG n
      omega
    · show 0 ≤ d.rdO n
      unfold rdO
      repeat' split
      all_goals omega
    · intro (x : d.deaf = false)
      have s := h.sum x
      show d.left + d.rdG n + ((d.unread.drop (d.rdK n)).length : Int) + d.rdO n = d.win
      have k : d.rdK n ≤ d.unread.length := Nat.min_le_right _ _
      unfold rdG rdO
      rw [List.length_drop, x]
      simp only [Bool.false_eq_true, if_false]
      split <;> omega
    · show d.rdO n < ((d.win : Int) + 1) / 2
      unfold rdO
      repeat' split
      all_goals omega
theorem frK_le (d : Dm) : d.frK ≤ d.staged.length ∧ (d.frK : Int) ≤ max d.credit 0 ∧ (d.frK : Int) ≤ max d.frame 0 := by
  unfold frK
  omega
theorem frD_ok (h : d.Ok) : d.frD.Ok := by
  unfold frD
  split
  · rename_i r
    obtain ⟨k1, k2, k3⟩ := frK_le d
    have a := h.st
    have b := h.cr1
    have c := h.cr2
    have e := h.frame1
    refine { h with cr1 := ?_, cr2 := ?_, st := ?_, off := ?_, gon := h.gon, lst := ?_, sum := h.sum }
    · show 0 ≤ d.credit - d.frK
      omega
    · show d.credit - d.frK ≤ d.win
      omega
    · simp only [List.length_drop]; omega
    · intro x
      simp only [ready, off, frL] at r x
      show d.staged.drop d.frK = []
      refine List.drop_eq_nil_of_le ?_
      revert r x
      cases d.drop <;> cases d.cut <;> cases d.last <;> cases d.closing <;> simp
    · intro (x : d.frL = true)
      simp only [frL, Bool.and_eq_true] at x
      exact x.1
  · exact h
theorem ends_ok (h : d.Ok) : d.ends.Ok := by
  have := h.win1
  refine { h with off := h.off, gon := h.gon, lst := h.lst, l0 := by simp [ends], o0 := by simp [ends], sum := ?_, ow := ?_ }
  · intro x
    simp [ends, deaf] at x
  · simp only [ends]; omega
theorem arD_ok (h : d.Ok) (xs : List Int) (fin : Bool) : (d.arD xs fin).Ok := by
  unfold arD
  split
  · exact h
  · rename_i a
    split
    · exact h
    · rename_i b
      have c : d.deaf = false := by simpa using a
      have s := h.sum c
      have l0 := h.l0
      have o0 := h.o0
      have K : Ok { d with unread := d.unread ++ xs, left := d.left - xs.length } := by
        refine { h with un := ?_, off := h.off, gon := ?_, lst := h.lst, l0 := ?_, sum := ?_ }
        · simp only [List.length_append]; omega
        · intro (x : d.drop = true)
          simp [deaf, x] at c
        · show 0 ≤ d.left - xs.length
          omega
        · intro _
          show d.left - xs.length + ((d.unread ++ xs).length : Int) + d.owed = d.win
          rw [List.length_append]; omega
      split
      · exact ends_ok K
      · exact K
theorem grD_ok (h : d.Ok) (n : Int) (hn : 0 ≤ n) (fin : Bool) : (d.grD n fin).Ok := by
  unfold grD
  split
  · exact h
  · split
    · exact h
    · rename_i b
      have c1 := h.cr1
      have c2 := h.cr2
      have K : Ok { d with credit := d.grC n } := by
        refine { h with cr1 := ?_, cr2 := ?_, off := h.off, gon := h.gon, lst := h.lst, sum := h.sum }
        · show 0 ≤ d.grC n
          unfold grC
          split <;> omega
        · show d.grC n ≤ d.win
          unfold grE at b
          unfold grC
          split
          · omega
          · rename_i o
            rw [if_neg o] at b
            split at b
            · exact absurd rfl b
            · omega
      split
      · exact ends_ok K
      · exact K
theorem dropD_ok (h : d.Ok) : d.dropD.Ok :=
  { h with st := by simp [dropD], un := by simp [dropD], off := fun _ => rfl, gon := fun _ => rfl, lst := h.lst, sum := fun x => by simp [dropD, deaf] at x }
theorem cutD_ok (h : d.Ok) : d.cutD.Ok := by
  unfold cutD
  split
  · exact h
  · rename_i a
    exact { h with st := by simp, off := fun _ => rfl, gon := h.gon, lst := h.lst, sum := fun x => by simp [deaf] at x }
end
end Dm
end Go.Proofs.YteghehhifebhcaaDoor
