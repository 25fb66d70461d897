/-
  A range over a function that keeps its place in a box b of its own, which it changes behind each round; the body leaves the blocks of K alone (as RgL). Of whatever program.
-/
import Derived.Test.YtbbldkldgjmmgaaGreatDoorBase
import Derived.RangeFuncNested
import Derived.RangeFuncLeaves
import Derived.RangeFuncCalls
namespace Go.Proofs.YtbbldkldgjmmgaaGreatDoor
open Go.RowKit

section
variable {P : Program} {F : Fence} {n : Nat} {α : Type}

variable {K : Nat → Prop} {b : Nat}
/-- what a round leaves: its record as it was, and the blocks of K -/
def Left2 (K : Nat → Prop) (l : Nat) (W W' : World) : Prop := W'.heap[l]? = W.heap[l]? ∧ ∀ k, K k → W'.heap[k]? = W.heap[k]?
def roundLeft2 (K : Nat → Prop) (l : Nat) (I : List α → World → Prop) (Ix : Code → List α → World → Prop) (xs : List α) (W : World) : Exit → Act → World → Prop
  | .normal, _, W' => Left2 K l W W' ∧ I xs W'
  | .ret, _, W' => Left2 K l W W' ∧ Ix .ret xs W'
  | .exit id, _, W' => Left2 K l W W' ∧ Ix (.exit id) xs W'
  | .goto t, _, W' => Left2 K l W W' ∧ Ix (.goto t) xs W'
  | .panic _, _, _ => False
  | .outgrown, _, _ => False
/-- what such an iterator promises -/
def Hands2 (F : Fence) (n : Nat) (P : Program) (gf : Nat) (lb : Array Value) (encs : α → Array Value) (L : List α) (K : Nat → Prop) (b : Nat) (Wk : World → Prop) : Prop :=
  ∀ (l : Nat) (J Jx : List α → World → Prop) (W : World), (∀ pre A B, J pre A → Keeps (fun k => k = b) A B → J pre B) →
    (∀ pre x A, J pre A → pre <+: L → L[pre.length]? = some x → YieldAt F (n - 1) P l (encs x) A fun e A' => (∀ k, K k → A'.heap[k]? = A.heap[k]?) ∧ ((e = .returned (.bool true) ∧ J (pre ++ [x]) A') ∨ (e = .returned (.bool false) ∧ Jx (pre ++ [x]) A'))) → Wk W → J [] W →
    CallsIn F n P gf (#[.func (.yield l) #[] #[]] ++ lb) W fun e W' => (∃ v, e = .returned v) ∧ (J L W' ∨ ∃ pre, pre <+: L ∧ Jx pre W')
theorem quiet_block2 {A B : World} {k : Nat} {o : Obj} (h : A.heap[k]? = some o) (hk : Keeps (fun k => k = b) A B) (hb : k ≠ b) : B.heap[k]? = some o := (hk.block k (Array.getElem?_eq_some_iff.1 h).1 hb).trans h

theorem putObj_other {W : World} {l k : Nat} {o : Obj} (h : k ≠ l) : (W.putObj l o).heap[k]? = W.heap[k]? := by
  simp [World.putObj, Ne.symm h]
theorem range_core2 (hF : ∀ f, F.fn f) {gf : Nat} {lb : Array Value} {encs : α → Array Value} {L : List α} {Wk : World → Prop} (hH : Hands2 F (n - 1) P gf lb encs L K b Wk) {fn : FuncId} {tm : Array Value} {ps : Array Tmp} {assign body : Code} {l d : Nat} {Q : Exit → Act → World → Prop} {a' : Act} {W1 : World}
    (hps : ∀ x, (encs x).size = ps.size) (hl : W1.heap[l]? = some (.loop { state := .ready, pending := none, fn, tmps := tm, params := ps, assign, body, defers := d }))
    (I : List α → World → Prop) (Ix : Code → List α → World → Prop) (h0 : I [] W1) (hq : ∀ pre A B, I pre A → Keeps (fun k => k = b) A B → I pre B) (hw : Wk W1) (hlb : l ≠ b) (hlK : ¬ K l) (hp : ∀ pre A r r', I pre A → A.heap[l]? = some (.loop r) → I pre (A.putObj l (.loop r'))) (hpx : ∀ c pre A r r', Ix c pre A → A.heap[l]? = some (.loop r) → Ix c pre (A.putObj l (.loop r'))) (a₁ : α → Act)
    (hassign : ∀ (x : α) (W : World) (K : Act → World → Prop), K (a₁ x) W → assign.wpIn (F.inRound l) (n - 1 - 1) P (Exit.then K (fun _ _ _ => False)) { tmps := (ps.zip (encs x)).foldl (fun t (p, v) => t.setIfInBounds p v) tm, defers := [] } W)
    (hbody : ∀ (pre : List α) (x : α) (W : World) (r : Loop), I pre W → pre <+: L → L[pre.length]? = some x → W.heap[l]? = some (.loop r) → r.defers = d → body.wpIn (F.inRound l) (n - 1 - 1) P (roundLeft2 K l I Ix (pre ++ [x]) W) (a₁ x) W)
    (hdone : ∀ W r, I L W → W.heap[l]? = some (.loop r) → Q .normal a' W) (hstop : ∀ c pre W r, pre <+: L → Ix c pre W → W.heap[l]? = some (.loop r) → c.wpIn F n P Q a' W) :
    CallsIn F (n - 1) P gf (#[.func (.yield l) #[] #[]] ++ lb) W1 (rangePost F n P l Q a') := by
  obtain ⟨rec, hrec⟩ : ∃ rec : LoopState → Option Code → Loop, rec = fun st pe => { state := st, pending := pe, fn, tmps := tm, params := ps, assign, body, defers := d } := ⟨_, rfl⟩
  have hl' : W1.heap[l]? = some (.loop (rec .ready none)) := by rw [hrec]; exact hl
  refine (hH l (fun pre W => I pre W ∧ W.heap[l]? = some (.loop (rec .ready none))) (fun pre W => ∃ c, Ix c pre W ∧ W.heap[l]? = some (.loop (rec .done (some c)))) W1
    (fun pre A B h k => ⟨hq pre A B h.1 k, quiet_block2 h.2 k hlb⟩) ?_ hw ⟨h0, hl'⟩).mono ?_
  · rintro pre x W ⟨hi, hr⟩ hpre hx
    have hy := run_yield (P := P) (args := encs x) hr (by rw [hrec]; exact hps x)
    rw [hrec] at hy
    refine ⟨fn, _, assign, body, hy, roundIn_of_wpIn (hF fn) (hassign x W _ ?_)⟩
    have hlt : l < W.heap.size := (Array.getElem?_eq_some_iff.1 hr).1
    have hb2 : (W.putObj l (.loop { rec .ready none with state := .busy })).heap[l]? = some (.loop { rec .ready none with state := .busy }) := World.putObj_heap_same hlt
    refine ⟨_, run_beginRound hr (by rw [hrec]), wpIn_mono (hbody pre x _ _ (hp pre W _ _ hi hr) hpre hx hb2 (by rw [hrec])) ?_⟩
    have fin : ∀ (jump : Option Code) (W3 : World), W3.heap[l]? = (W.putObj l (.loop { rec .ready none with state := .busy })).heap[l]? →
        (Instr.endRound l jump).run P W3 = .ok (.bool jump.isNone) (W3.putObj l (.loop (rec (if jump.isNone then .ready else .done) jump))) ∧ W3.heap[l]? = some (.loop { rec .ready none with state := .busy }) ∧
        (W3.putObj l (.loop (rec (if jump.isNone then .ready else .done) jump))).heap[l]? = some (.loop (rec (if jump.isNone then .ready else .done) jump)) := fun jump W3 h3 => by
      have h4 := h3.trans hb2
      have h5 := run_endRound (P := P) jump h4
      rw [hrec] at h5 ⊢
      exact ⟨h5, by rw [hrec] at h4; exact h4, World.putObj_heap_same (Array.getElem?_eq_some_iff.1 h4).1⟩
    have kk : ∀ (W3 : World) (r : Loop), (∀ k, K k → W3.heap[k]? = (W.putObj l (.loop { rec .ready none with state := .busy })).heap[k]?) → ∀ k, K k → (W3.putObj l (.loop r)).heap[k]? = W.heap[k]? := fun W3 r h k hk => by
      have hne : k ≠ l := fun e => hlK (e ▸ hk)
      rw [putObj_other hne, h k hk, putObj_other hne]
    intro e a3 W3 h3
    cases e with
    | normal =>
      obtain ⟨f1, f2, f3⟩ := fin none W3 h3.1.1
      exact ⟨_, _, f1, kk _ _ h3.1.2, .inl ⟨rfl, hp _ _ _ _ h3.2 f2, f3⟩⟩
    | ret =>
      obtain ⟨f1, f2, f3⟩ := fin (some .ret) W3 h3.1.1
      exact ⟨_, _, f1, kk _ _ h3.1.2, .inr ⟨rfl, .ret, hpx _ _ _ _ _ h3.2 f2, f3⟩⟩
    | exit id =>
      obtain ⟨f1, f2, f3⟩ := fin (some (.exit id)) W3 h3.1.1
      exact ⟨_, _, f1, kk _ _ h3.1.2, .inr ⟨rfl, .exit id, hpx _ _ _ _ _ h3.2 f2, f3⟩⟩
    | goto t =>
      obtain ⟨f1, f2, f3⟩ := fin (some (.goto t)) W3 h3.1.1
      exact ⟨_, _, f1, kk _ _ h3.1.2, .inr ⟨rfl, .goto t, hpx _ _ _ _ _ h3.2 f2, f3⟩⟩
    | panic ch => exact h3.elim
    | outgrown => exact h3.elim
  · rintro e W2 ⟨⟨v, rfl⟩, (⟨hi, hr⟩ | ⟨pre, hpre, c, hi, hr⟩)⟩
    · have hlt : l < W2.heap.size := (Array.getElem?_eq_some_iff.1 hr).1
      exact ⟨none, _, by have := run_endLoop (P := P) hr (by rw [hrec]; simp); rw [hrec] at this; exact this, hdone _ _ (hp _ _ _ _ hi hr) (World.putObj_heap_same hlt)⟩
    · have hlt : l < W2.heap.size := (Array.getElem?_eq_some_iff.1 hr).1
      exact ⟨some c, _, by have := run_endLoop (P := P) hr (by rw [hrec]; simp); rw [hrec] at this; exact this, hstop c pre _ _ hpre (hpx _ _ _ _ _ hi hr) (World.putObj_heap_same hlt)⟩
/-- a loop of its own: the record lies at l = w.heap.size + 1, the block for deferred calls at w.heap.size -/
theorem range_outer2 {g : Operand} {ps : Array Tmp} {assign body : Code} {Q : Exit → Act → World → Prop} {a : Act} {w : World} {gf : Nat} {lb : Array Value} (hg : a.eval g = .func (.func gf) #[] lb) (eg : ∀ args w, (callFunc gf args).run P w = .ok (.enter gf args) w)
    {encs : α → Array Value} {L : List α} {Wk : World → Prop} (hH : Hands2 Fence.wide (n - 1) P gf lb encs L K b Wk) (hps : ∀ x, (encs x).size = ps.size)
    (I : List α → World → Prop) (Ix : Code → List α → World → Prop) (h0 : ∀ r, I [] ((w.alloc (.deferred (some []))).alloc (.loop r))) (hq : ∀ pre A B, I pre A → Keeps (fun k => k = b) A B → I pre B) (hw : ∀ r, Wk ((w.alloc (.deferred (some []))).alloc (.loop r))) (hbw : b < w.heap.size) (hKw : ∀ k, K k → k < w.heap.size)
    (hp : ∀ pre A r r', I pre A → A.heap[w.heap.size + 1]? = some (.loop r) → I pre (A.putObj (w.heap.size + 1) (.loop r'))) (hpx : ∀ c pre A r r', Ix c pre A → A.heap[w.heap.size + 1]? = some (.loop r) → Ix c pre (A.putObj (w.heap.size + 1) (.loop r'))) (a₁ : α → Act)
    (hassign : ∀ (x : α) (W : World) (K : Act → World → Prop), K (a₁ x) W → assign.wpIn (Fence.wide.inRound (w.heap.size + 1)) (n - 1 - 1) P (Exit.then K (fun _ _ _ => False)) { tmps := (ps.zip (encs x)).foldl (fun t (p, v) => t.setIfInBounds p v) a.tmps, defers := [] } W)
    (hbody : ∀ (pre : List α) (x : α) (W : World) (r : Loop), I pre W → pre <+: L → L[pre.length]? = some x → W.heap[w.heap.size + 1]? = some (.loop r) → body.wpIn (Fence.wide.inRound (w.heap.size + 1)) (n - 1 - 1) P (roundLeft2 K (w.heap.size + 1) I Ix (pre ++ [x]) W) (a₁ x) W)
    (hdone : ∀ W, I L W → Q .normal { a with defers := { target := .collected w.heap.size, args := #[] } :: a.defers } W)
    (hstop : ∀ c pre W, pre <+: L → Ix c pre W → c.wpIn Fence.wide n P Q { a with defers := { target := .collected w.heap.size, args := #[] } :: a.defers } W) :
    (Code.rangeFunc g ps assign body).wpIn Fence.wide n P Q a w := by
  refine wpIn_rangeFunc ?_
  intro fn _
  obtain ⟨rec, hrec⟩ : ∃ rec : Loop, rec = { state := .ready, pending := none, fn, tmps := a.tmps, params := ps, assign, body, defers := w.heap.size } := ⟨_, rfl⟩
  obtain ⟨W1, hW1⟩ : ∃ W1, (w.alloc (.deferred (some []))).alloc (.loop rec) = W1 := ⟨_, rfl⟩
  have hl : W1.heap[w.heap.size + 1]? = some (.loop rec) := by
    have h := World.alloc_heap_new (w.alloc (.deferred (some []))) (.loop rec)
    rw [World.size_alloc] at h
    rw [← hW1]; exact h
  refine ⟨w.heap.size + 1, [{ target := .collected w.heap.size, args := #[] }], W1, { target := .fn (.func gf) lb, args := #[.func (.yield (w.heap.size + 1)) #[] #[]] }, W1, gf, #[.func (.yield (w.heap.size + 1)) #[] #[]] ++ lb, W1, ?_, ?_, fun _ _ => trivial, ?_, fun e => (by cases e), ?_⟩
  · rw [← hW1, hrec]; exact run_enterLoop_outer _ _ _ _ _
  · simp only [resolve, hg]
    simp [go_sem]
  · simp [invoke, go_sem, eg]
  · rw [hrec] at hl
    exact range_core2 (fun _ => trivial) hH hps hl I Ix (by rw [← hW1]; exact h0 _) hq (by rw [← hW1]; exact hw _) (by omega) (fun h => by have := hKw _ h; omega) hp hpx a₁ hassign (fun pre x W r h1 h2 h3 h4 _ => hbody pre x W r h1 h2 h3 h4) (fun W _ h _ => hdone W h) (fun c pre W _ h1 h2 _ => hstop c pre W h1 h2)
end
end Go.Proofs.YtbbldkldgjmmgaaGreatDoor
