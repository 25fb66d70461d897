/-
  package frame: Size, Bytes; the document's Size, Bytes.
-/
import Derived.Test.YtjhjhmhhnifgmaaDoorFrameC
import Derived.Test.YtjhjhmhhnifgmaaDoorFrameE0
import Derived.Test.YtjhjhmhhnifgmaaDoorBase
namespace Go.Proofs.YtjhjhmhhnifgmaaDoor
open Go.RowKit

def szH (t l : Int) : Int := if t = 0 then l else 0
theorem size_any (v t f s l : Int) (w : World) (hl0 : 0 ≤ l) (hl1 : l ≤ 4294967295) :
    Calls Tryd.prog 21 #[hdr v t f s l] w fun e w' => e = .returned (.int .i64 (szH t l)) ∧ w' = w.alloc (hbox v t f s l) := by
  by_cases h : t = 0
  · have h' : Aside (szH t l = l) := ⟨if_pos h⟩
    rw [h'.it]
    go_enter Tryd.func21, Tryd.ntmps21
    go_wp2
    go_ret
    exact ⟨rfl, by rw [h]⟩
  · have h' : Aside (szH t l = 0) := ⟨if_neg h⟩
    rw [h'.it]
    go_enter Tryd.func21, Tryd.ntmps21
    go_wp2
    go_ret
    exact ⟨rfl, rfl⟩
/-- append as a step of a region -/
theorem step_appendB {W : World} {ops : Array Oper} {o : Oper} {a : Act} {K : Act → World → Prop} {Q : Exit → Act → World → Prop} {E : Prop} (tmp : Tmp) (hdst : o.dst = some tmp) (hgd : o.guard = none) (s x : Operand)
    (ho : o.op = .call { callee := .builtin .append, args := #[s, x], argTypes := #[29, 29] }) (B : Nat) (v sv : Value) (ns ms : List Int) (hown : OwnB B W v ns) (hr : Rd W sv ms)
    (hb : ns.length + ms.length ≤ 140737488355328) (hB : B ≤ W.heap.size) (hs : a.eval s = v) (hx : a.eval x = sv)
    (h : ∀ v' w', Aside (OwnB B w' v' (ns ++ ms)) → Aside (Below B W w') → K (a.put (some tmp) v') w') : if Region.wanted o (yielded ops a.tmps) = true then Oper.wp Tryd.prog o a W K Q else E := by
  obtain ⟨i, hi, hz0, hz1, hz2⟩ := info_parts u8info
  have hown' : W.ownsRow B 5 1 v (bv ns).length (bv ns) := by rw [bv_length]; exact hown
  obtain ⟨v', w', run, o', g'⟩ := run_appendK (P := Tryd.prog) W B 29 5 i _ 1 Tryd.underlying29 hi hz0 hz1 hz2 rfl v (bv ns) hown' sv (bv ms) hr.1 hr.2 (bv_one ms) (by rw [bv_length, bv_length]; omega) (by rw [bv_length, bv_length]; unfold maxLen; omega) hB
  refine step_appendK tmp hdst hgd s x 29 ho v sv v' w' hs hx run (h v' w' ⟨?_⟩ ⟨?_⟩)
  · rw [← bv_append, bv_length] at o'
    exact o'
  · exact (grown_keeps g').below hB (fun k hk => owns_base hown k hk)

/-- a frame's box -/
abbrev fbox (v t f s l : Int) (d : Value) : Obj := .cells #[.int .u8 v, .int .u8 t, .int .u16 f, .int .u32 s, .int .u32 l, d] 46
abbrev frm (v t f s l : Int) (d : Value) : Value := .agg #[.int .u8 v, .int .u8 t, .int .u16 f, .int .u32 s, .int .u32 l, d]
def FB (p : Nat) (v t f s l : Int) (d : Value) (w : World) : Prop := HB p v t f s l w ∧ w.cell? ⟨p, 5, none⟩ = some d
theorem FB.later {p : Nat} {v t f s l : Int} {d : Value} {w w' : World} (h : FB p v t f s l d w) (hb : Below w.heap.size w w') : FB p v t f s l d w' :=
  ⟨h.1.later hb, (hb.cell (p := ⟨p, 5, none⟩) (show p < w.heap.size from cell_lt h.1.1)).trans h.2⟩
theorem FB.new (w : World) (v t f s l : Int) (d : Value) : FB w.heap.size v t f s l d (w.alloc (fbox v t f s l d)) := by
  refine ⟨⟨?_, ?_, ?_, ?_, ?_⟩, ?_⟩ <;> simp [World.cell?, heap_alloc]

/-- a frame's box and its payload, and the sentinels, in a call's world -/
structure FAt (A : Nat → Addr) (w : World) (p : Nat) (v t f s l : Int) (d : Value) (ns : List Int) (w' : World) : Prop where
  sS : Sents 116 codeVars A w'
  bB : Below w.heap.size w w'
  fF : FB p v t f s l d w'
  rR : Rd w' d ns
theorem FAt.later {A : Nat → Addr} {w w1 w2 : World} {p : Nat} {v t f s l : Int} {d : Value} {ns : List Int} (h : FAt A w p v t f s l d ns w1) (hb : Below w1.heap.size w1 w2) : FAt A w p v t f s l d ns w2 :=
  ⟨h.sS.later hb, h.bB.trans (hb.mono h.bB.size), h.fF.later hb, h.rR.later hb⟩
theorem FAt.cells {A : Nat → Addr} {w w1 : World} {p : Nat} {v t f s l : Int} {d : Value} {ns : List Int} (h : Aside (FAt A w p v t f s l d ns w1)) :
    w1.cell? ⟨p, 0, none⟩ = some (.int .u8 v) ∧ w1.cell? ⟨p, 1, none⟩ = some (.int .u8 t) ∧ w1.cell? ⟨p, 2, none⟩ = some (.int .u16 f) ∧ w1.cell? ⟨p, 3, none⟩ = some (.int .u32 s) ∧ w1.cell? ⟨p, 4, none⟩ = some (.int .u32 l) ∧ w1.cell? ⟨p, 5, none⟩ = some d :=
  ⟨h.it.fF.1.1, h.it.fF.1.2.1, h.it.fF.1.2.2.1, h.it.fF.1.2.2.2.1, h.it.fF.1.2.2.2.2, h.it.fF.2⟩
section
variable {A : Nat → Addr} {w : World} {p : Nat} {v t f s l : Int} {d : Value} {ns : List Int}
theorem size_f (hl0 : 0 ≤ l) (hl1 : l ≤ 4294967295) (W : World) (h : Aside (FAt A w p v t f s l d ns W)) :
    Calls Tryd.prog 21 #[hdr v t f s l] W fun e w' => e = .returned (.int .i64 (szH t l)) ∧ Aside (FAt A w p v t f s l d ns w') :=
  (size_any v t f s l W hl0 hl1).mono (by rintro e w' ⟨rfl, rfl⟩; exact ⟨rfl, ⟨h.it.later (alloc_below _ _)⟩⟩)
end

def bE (t l : Int) (n : Nat) : Int := if (n : Int) = szH t l then 0 else 15
def bO (v t f s l : Int) (ns : List Int) : List Int := if (ns.length : Int) = szH t l then enc v t f s l ++ ns else []

end Go.Proofs.YtjhjhmhhnifgmaaDoor
