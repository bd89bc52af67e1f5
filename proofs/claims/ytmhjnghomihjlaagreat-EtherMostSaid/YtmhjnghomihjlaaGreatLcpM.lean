
/-
  Layer 15's answers as mathematics: what a code has, how a packet is written, what octets are as a packet. No condition.
-/
import Derived.Test.YtmhjnghomihjlaaGreatGPkt
import Derived.Test.YtmhjnghomihjlaaGreatGOps
import Derived.Test.YtmhjnghomihjlaaGreatGCtl
namespace Go.Proofs.YtmhjnghomihjlaaGreat
set_option maxRecDepth 4000

/-- What a code has: Data (0), Opts (1), Sub and Data (2), Magic and Data (3). -/
def hasL (c : Nat) : Nat := if c = 1 ∨ c = 2 ∨ c = 3 ∨ c = 4 then 1 else if c = 8 then 2 else if c = 9 ∨ c = 10 ∨ c = 11 then 3 else 0
theorem hasL_cases (c : Nat) : hasL c = 0 ∨ hasL c = 1 ∨ hasL c = 2 ∨ hasL c = 3 := by unfold hasL; split <;> (try split) <;> (try split) <;> simp
/-- A packet without what its code has. -/
def restL (p : Pk) : Pk :=
  if hasL p.code = 1 then { p with opts := [] } else if hasL p.code = 2 then { p with sub := 0, data := [] } else if hasL p.code = 3 then { p with magic := 0, data := [] } else { p with data := [] }
/-- Is all that some codes lack nothing? -/
def nothL (p : Pk) : Bool :=
  decide (p.sub = 0) && decide (p.magic = 0) && decide (p.opts.length = 0) && decide (p.nums.length = 0) && decide (p.one.length = 0) && decide (p.two.length = 0) && decide (p.data.length = 0)
/-- Its control packet's data, and the error's number. -/
def wrL (p : Pk) : List Nat × Nat :=
  if hasL p.code = 1 then putO 49185 p.opts else if hasL p.code = 2 then (numB p.sub 2 ++ p.data, 0) else if hasL p.code = 3 then (numB p.magic 4 ++ p.data, 0) else (p.data, 0)
/-- What Put answers. -/
def lputB (p : Pk) : List Nat × Nat :=
  if p.proto = 49185 then (if nothL (restL p) = true then (if (wrL p).2 = 0 then (kputA p.code p.id (wrL p).1, kerrP (wrL p).1) else ([], (wrL p).2)) else ([], 9)) else ([], 8)
/-- How many octets Sub has, or Magic. -/
def sizL (c : Nat) : Nat := if hasL c = 2 then 2 else if hasL c = 3 then 4 else 0
/-- What a control packet's data is. -/
def lrdB (c i : Nat) (d : List Nat) : Pk × Nat :=
  if hasL c = 1 then (if (getO 49185 d).2 = 0 then (⟨49185, c, i, (getO 49185 d).1, 0, 0, [], [], [], []⟩, 0) else (pk0, (getO 49185 d).2))
  else if hasL c = 2 then (if d.length < 2 then (pk0, 2) else (⟨49185, c, i, [], valN (d.take 2), 0, [], [], d.drop 2, []⟩, 0))
  else if hasL c = 3 then (if d.length < 4 then (pk0, 2) else (⟨49185, c, i, [], 0, valN (d.take 4), [], [], d.drop 4, []⟩, 0))
  else (⟨49185, c, i, [], 0, 0, [], [], d, []⟩, 0)
/-- What Get answers. -/
def lgetB (b : List Nat) : Pk × Nat := if (kgetB b).2.2.2 = 0 then lrdB (kgetB b).1 (kgetB b).2.1 (kgetB b).2.2.1 else (pk0, (kgetB b).2.2.2)

theorem lget_of {b d : List Nat} {x y : Nat} (h : kgetB b = (x, y, d, 0)) : lgetB b = lrdB x y d := by unfold lgetB; rw [h]; rfl
theorem lget_no {b d : List Nat} {x y e : Nat} (h : kgetB b = (x, y, d, e)) (he : e ≠ 0) : lgetB b = (pk0, e) := by unfold lgetB; rw [h]; exact if_neg he
theorem lrd_err {c i : Nat} {d : List Nat} {p : Pk} {k : Nat} (h : lrdB c i d = (p, k)) (hk : k ≠ 0) : p = pk0 := by
  unfold lrdB at h
  split at h
  · split at h
    · exact absurd (Prod.mk.inj h).2.symm hk
    · exact (Prod.mk.inj h).1.symm
  · split at h
    · split at h
      · exact (Prod.mk.inj h).1.symm
      · exact absurd (Prod.mk.inj h).2.symm hk
    · split at h
      · split at h
        · exact (Prod.mk.inj h).1.symm
        · exact absurd (Prod.mk.inj h).2.symm hk
      · exact absurd (Prod.mk.inj h).2.symm hk
theorem lget_err {b : List Nat} {p : Pk} {k : Nat} (h : lgetB b = (p, k)) (hk : k ≠ 0) : p = pk0 := by
  unfold lgetB at h
  split at h
  · exact lrd_err h hk
  · exact (Prod.mk.inj h).1.symm

/-- A number of as many octets as it has is these octets. -/
theorem num_valN {l : List Nat} (hb : By l) (v : Nat) : numB (v * 256 ^ l.length + valN l) l.length = l := by
  induction l generalizing v with
  | nil => rfl
  | cons x l ih =>
    rw [List.length_cons, numB, valN_cons]
    have hx : x < 256 := hb x (List.mem_cons_self ..)
    have hl := valN_lt (fun y hy => hb y (List.mem_cons_of_mem _ hy) : By l)
    have hpos : 0 < 256 ^ l.length := Nat.pow_pos (by omega)
    have e : v * 256 ^ (l.length + 1) + (x * 256 ^ l.length + valN l) = (v * 256 + x) * 256 ^ l.length + valN l := by
      rw [Nat.pow_succ, Nat.add_mul, Nat.mul_assoc, Nat.mul_comm 256 (256 ^ l.length)]; omega
    rw [e, ih (fun y hy => hb y (List.mem_cons_of_mem _ hy)) (v * 256 + x)]
    congr 1
    rw [Nat.add_comm, Nat.add_mul_div_right _ _ hpos, Nat.div_eq_of_lt hl]
    omega
theorem num_of_val {l : List Nat} (hb : By l) (k : Nat) (hk : l.length = k) : numB (valN l) k = l := by
  have := num_valN hb 0
  rw [Nat.zero_mul, Nat.zero_add, hk] at this
  exact this
theorem take_num (n k : Nat) (d : List Nat) : (numB n k ++ d).take k = numB n k := by
  have e := num_len n k
  conv => lhs; rw [show k = (numB n k).length from e.symm]
  rw [e, List.take_append_of_le_length (by rw [e]; exact Nat.le_refl _), List.take_of_length_le (by rw [e]; exact Nat.le_refl _)]
theorem drop_num (n k : Nat) (d : List Nat) : (numB n k ++ d).drop k = d := by
  rw [List.drop_append_of_le_length (by rw [num_len]; exact Nat.le_refl _), List.drop_of_length_le (by rw [num_len]; exact Nat.le_refl _), List.nil_append]
end Go.Proofs.YtmhjnghomihjlaaGreat
