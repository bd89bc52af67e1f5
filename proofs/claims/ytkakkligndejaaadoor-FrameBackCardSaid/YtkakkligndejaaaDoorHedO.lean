
/-
  The walk of the statement HeadOne. No condition beyond: numbers that Go's types have.
-/
import Derived.Test.YtkakkligndejaaaDoorHedB
namespace Go.Proofs.YtkakkligndejaaaDoor
open Go.RowKit

/-! Lists alone. -/
theorem num_mem (c : Cf) (p : Nat) (led s : Bool) (h : s = true → c.pfc = true ∧ p < 256) : wrB p led s ∈ numB c p led := by
  unfold numB
  cases s
  · split <;> simp
  · rw [if_pos (by simp [(h rfl).1, (h rfl).2])]; simp
theorem put_short {p : Nat} {l : List Nat} (h : putB p true = l.take 1) : p < 256 := by
  have := congrArg List.length h
  rw [List.length_take] at this
  unfold putB at this
  split at this
  · rename_i h; exact h.2
  · simp at this; omega
/-- Octets that are read begin with one of the headers. -/
theorem hget_all {c : Cf} {l : List Nat} {q n : Nat} (hb : By l) (h : hgetB c l = (q, n, 0)) : rightB q = true ∧ n ≤ l.length ∧ l.take n ∈ allB c q := by
  unfold hgetB at h
  split at h
  · rename_i h2
    obtain ⟨g1, g2, g3, hg⟩ : ∃ g1 g2 g3, getB (l.drop 2) c.pfc = (g1, g2, g3) := ⟨_, _, _, rfl⟩
    rw [hg, haddB] at h
    dsimp only at h
    split at h
    · rename_i h3
      simp only [Prod.mk.injEq] at h
      obtain ⟨rfl, rfl, _⟩ := h
      subst h3
      obtain ⟨k1, k2, k3⟩ := getB_ok (hb.drop 2) hg
      rw [List.length_drop] at k2
      have hl : 2 ≤ l.length := by
        have := congrArg List.length h2
        rw [List.length_take] at this
        simp at this
        omega
      have ht : ∀ m, l.take (2 + m) = [255, 3] ++ (l.drop 2).take m := fun m => by rw [List.take_add, h2]
      refine ⟨k1, by omega, ?_⟩
      rw [allB, List.mem_append]
      right
      rw [ht]
      rcases k3 with ⟨rfl, k3⟩ | ⟨rfl, ks, k3⟩
      · rw [← k3]; exact num_mem c g1 true false (by simp)
      · rw [← k3]; exact num_mem c g1 true true (fun _ => ⟨ks, put_short k3⟩)
    · simp at h
  · split at h
    · rename_i ha
      obtain ⟨g1, g2, g3, hg⟩ : ∃ g1 g2 g3, getB l c.pfc = (g1, g2, g3) := ⟨_, _, _, rfl⟩
      rw [hg, haddB] at h
      dsimp only at h
      split at h
      · rename_i h3
        simp only [Prod.mk.injEq] at h
        obtain ⟨rfl, rfl, _⟩ := h
        subst h3
        obtain ⟨k1, k2, k3⟩ := getB_ok hb hg
        refine ⟨k1, by omega, ?_⟩
        rw [allB, List.mem_append, if_pos ha]
        left
        rw [Nat.zero_add]
        rcases k3 with ⟨rfl, k3⟩ | ⟨rfl, ks, k3⟩
        · rw [← k3]; exact num_mem c g1 false false (by simp)
        · rw [← k3]; exact num_mem c g1 false true (fun _ => ⟨ks, put_short k3⟩)
      · simp at h
    · simp at h
theorem putB_any {p : Nat} (h : ¬ p < 256) (s : Bool) : putB p s = putB p false := by simp [putB, h]
/-- What is written is the first of all headers, or the last one. -/
theorem allB_first (c : Cf) (p : Nat) (h : p ≠ 49185) : (allB c p)[0]? = some (hputB c p) := by
  have e : hputB c p = wrB p (!c.acfc) c.pfc := by simp [hputB, h]
  rw [e]
  by_cases hp : p < 256
  · cases ha : c.acfc <;> cases hf : c.pfc <;> simp [allB, numB, ha, hf, hp]
  · have k : ∀ a s, wrB p a s = wrB p a false := fun a s => by rw [wrB, wrB, putB_any hp]
    rw [k]
    cases ha : c.acfc <;> simp [allB, numB, ha, hp]
theorem allB_last (c : Cf) : (allB c 49185)[(allB c 49185).length - 1]? = some (hputB c 49185) := by
  have e : hputB c 49185 = wrB 49185 true false := by simp [hputB]
  rw [e]
  cases ha : c.acfc <;> simp [allB, numB, ha]

/-- A config in a block, and a cell. -/
structure Cel (w0 W : World) (b2 : Nat) (c : Cf) (b6 o : Nat) (v : Value) : Prop where
  x : Bx W b2 29 c
  k : W.cell? ⟨b6, o, none⟩ = some v
  bel : Below w0.heap.size w0 W
theorem Cel.step {w0 W W' : World} {b2 : Nat} {c : Cf} {b6 o : Nat} {v : Value} (h : Cel w0 W b2 c b6 o v) (hb : Below W.heap.size W W') : Cel w0 W' b2 c b6 o v :=
  ⟨h.x.below hb, (hb.cell (block_lt h.k)).trans h.k, h.bel.trans (hb.mono h.bel.size)⟩
theorem Cel.drew {w0 W : World} {b2 : Nat} {c : Cf} {b6 o : Nat} {v : Value} (h : Cel w0 W b2 c b6 o v) : Cel w0 W.drew b2 c b6 o v := ⟨h.x, h.k, h.bel.drew⟩
theorem celflat {w0 W : World} {b2 : Nat} {c : Cf} {b6 o : Nat} {v : Value} (h : Cel w0 W b2 c b6 o v) : W.cell? ⟨b2, 0, none⟩ = some (.bool c.sync) ∧ W.cell? ⟨b2, 1, none⟩ = some (.bool c.wide) ∧ W.cell? ⟨b2, 2, none⟩ = some (.bool c.acfc) ∧ W.cell? ⟨b2, 3, none⟩ = some (.bool c.pfc) ∧ W.cell? ⟨b2, 4, none⟩ = some (.int .u32 (c.send : Int)) ∧ W.cell? ⟨b2, 5, none⟩ = some (.int .u32 (c.recv : Int)) ∧ W.cell? ⟨b2, 6, none⟩ = some (.int .i64 c.mru) ∧ W.cell? ⟨b6, o, none⟩ = some v := by
  obtain ⟨x0, x1, x2, x3, x4, x5, x6⟩ := h.x.all
  exact ⟨x0, x1, x2, x3, x4, x5, x6, h.k⟩

theorem hput_v (c : Cf) (p : Nat) (hp : p < 65536) (y : Int) (hy : y = (p : Int)) (w : World) :
    Calls Tryd.prog 23 #[c.val, .int .u16 y] w fun e w' => ∃ A n, e = .returned (.slice A n n) ∧ Got w w' A n (hputB c p) := hy ▸ hput_any c p hp w

end Go.Proofs.YtkakkligndejaaaDoor
