
/-
  The document's Number and Read: a number as octets, octets as a number. No condition beyond: at most 4 octets read.
-/
import Derived.Test.YtmhjnghomihjlaaGreatGOps
import Derived.Test.YtmhjnghomihjlaaGreatGWord
namespace Go.Proofs.YtmhjnghomihjlaaGreat
set_option maxRecDepth 4000
open Go.RowKit

set_option maxHeartbeats 2000000 in
theorem number_any (v z : Nat) (hv : v < 4294967296) (hz : z ≤ 1073741824) (w : World) :
    Calls Tryz.prog 69 #[.int .i64 (v : Int), .int .i64 (z : Int)] w fun e w' => ∃ A c, e = .returned (.slice A z c) ∧ w'.ownsRow w.heap.size 5 1 (.slice A z c) z (bvs (numB v z)) ∧ Below w.heap.size w w' := by
  obtain ⟨i0, hi, hz0, hz1, hz2⟩ := info_parts byte_info
  have O0 := Lib.hid (World.ownsRow_lit (base := w.heap.size) (e := 5) (size := 1) w #[] 0 (Nat.le_refl _) (by unfold maxLen; omega) rfl)
  have B0 := Lib.hid ((Below.refl w.heap.size w).alloc (Nat.le_refl _) (.cells #[] 5))
  go_enter Tryz.func69, Tryz.ntmps69
  go_wp2_with fail
  go_loopw [0, 5, 6] (fun n v' i wr => ∃ k : Nat, k ≤ z ∧ i = .int .i64 k ∧ n = .int .i64 ((v / 256 ^ k : Nat) : Int) ∧ ∃ A c, v' = .slice A k c ∧ wr.ownsRow w.heap.size 5 1 (.slice A k c) k (bvs (numB v k)) ∧ Hid (Below w.heap.size w wr)) (fun _ _ i _ => z - (intOf i).toNat)
  case atStart => exact ⟨0, Nat.zero_le _, rfl, by simp, _, _, rfl, O0.out, B0⟩
  case round =>
    clear O0 B0
    obtain ⟨k, hk, rfl, rfl, A, c, rfl, hown, hbel⟩ := hrel
    obtain ⟨y, hy⟩ : ∃ y, Hid (v / 256 ^ k = y) := ⟨_, Lib.hid rfl⟩
    rw [hy.out]
    have OW := Lib.hid hown
    clear hown
    by_cases hlt : k < z
    · obtain ⟨x, hx⟩ : ∃ x, y % 256 = x := ⟨_, rfl⟩
      obtain ⟨y2, hy2⟩ : ∃ y2, y / 256 = y2 := ⟨_, rfl⟩
      have e1 : (y : Int) % 256 = (x : Int) := by omega
      have e2 : (y : Int) / 256 = (y2 : Int) := by omega
      have E1 := Lib.hid (show numB v (k + 1) = [x] ++ numB v k by rw [numB, hy.out, hx]; rfl)
      have E2 := Lib.hid (show v / 256 ^ (k + 1) = y2 by rw [Nat.pow_succ, ← Nat.div_div_eq_div_mul, hy.out, hy2])
      have O1 := Lib.hid (show (wr.alloc (.cells #[.int .u8 (x : Int)] 5)).ownsRow wr.heap.size 5 1 (.slice (some ⟨wr.heap.size, 0, none⟩) 1 1) 1 (bvs [x]) from World.ownsRow_lit (base := wr.heap.size) (e := 5) (size := 1) wr #[.int .u8 (x : Int)] 1 (Nat.le_refl _) (by unfold maxLen; omega) rfl)
      have ba := (Below.refl wr.heap.size wr).alloc (Nat.le_refl _) (.cells #[.int .u8 (x : Int)] 5)
      have R1 := Lib.hid ((Rd.own OW.out).on ba)
      have B1 := Lib.hid (hbel.out.trans (ba.mono hbel.out.size))
      have x8 : (x : Int) < 256 := by omega
      have y9 : (y2 : Int) < 4294967296 := by have := hy.out; have h1 := Nat.div_le_self v (256 ^ k); omega
      clear ba hx hy2
      have i1 : (k : Int) < (z : Int) := by omega
      go_wp2_with (at_builtin; refine list_app rfl _ _ 26 rfl 5 i0 Tryz.underlying26 hi hz0 hz1 hz2 wr.heap.size _ 1 [x] rfl O1.out _ A k c (numB v k) rfl R1.out (num_len v k) (by omega) (by simp) ?_; intro A3 c3 w3 ho3 hg3; have R3 := Lib.hid (own_lo ho3 hbel.out.size); have B3 := Lib.hid (app_below B1.out hbel.out.size O1.out hg3); clear ho3 hg3)
      go_roundw
      case rel => exact ⟨k + 1, by omega, by go_num, by rw [E2.out], A3, c3, by rw [Nat.add_comm], by rw [E1.out]; have := R3.out; rw [Nat.add_comm 1 k] at this; exact this, B3⟩
      case measure => simp [intOf]; omega
    · have he : k = z := by omega
      subst he
      go_wp2_with fail
      go_ret
      exact ⟨A, c, rfl, OW.out, hbel.out⟩

theorem valN_at {l : List Nat} {k x : Nat} (hx : l[k]? = some x) : valN (l.take (k + 1)) = 256 * valN (l.take k) + x := by rw [valN_snoc hx]; omega
theorem valN_le4 {l : List Nat} (hb : By l) (k : Nat) (hk : k ≤ 4) : valN (l.take k) < 4294967296 := by
  have h := valN_lt (hb.take k)
  have h1 : (l.take k).length ≤ 4 := by rw [List.length_take]; omega
  have h2 : (256 : Nat) ^ (l.take k).length ≤ 256 ^ 4 := Nat.pow_le_pow_right (by omega) h1
  have h3 : (256 : Nat) ^ 4 = 4294967296 := by decide
  omega

set_option maxHeartbeats 2000000 in
theorem read15_any (l : List Nat) (n c z : Nat) (A : Option Addr) (w : World) (h : Rd w w.heap.size A l) (hb : By l) (hl : l.length = n) (hz : z ≤ 4) (hzn : z ≤ n) :
    Calls Tryz.prog 73 #[.slice A n c, .int .i64 (z : Int)] w fun e w' => e = .returned (.int .i64 (valN (l.take z) : Int)) ∧ Below w.heap.size w w' := by
  have HR := Lib.hid h
  have HB := Lib.hid hb
  have HL := Lib.hid hl
  clear h hb hl
  go_enter Tryz.func73, Tryz.ntmps73
  go_wp2_with fail
  go_loopw [5, 6] (fun v i wr => ∃ k : Nat, k ≤ z ∧ i = .int .i64 k ∧ v = .int .i64 (valN (l.take k) : Nat) ∧ Hid (Below w.heap.size w wr)) (fun _ i _ => z - (intOf i).toNat)
  case atStart => exact ⟨0, Nat.zero_le _, rfl, rfl, Lib.hid (Below.refl _ _)⟩
  case round =>
    obtain ⟨k, hk, rfl, rfl, hbel⟩ := hrel
    obtain ⟨v, hv⟩ : ∃ v, Hid (valN (l.take k) = v) := ⟨_, Lib.hid rfl⟩
    have v9 : v < 4294967296 := by rw [← hv.out]; exact valN_le4 HB.out k (by omega)
    rw [hv.out]
    by_cases hlt : k < z
    · obtain ⟨b, o, x, rfl, hbb, hx, hc⟩ := (HR.out.on hbel.out).at_ (k := k) (by rw [HL.out]; omega)
      have hx256 := HB.out.get hx
      have i1 : (0 : Int) ≤ k := by omega
      have i2 : (k : Int) < n := by omega
      have i3 : (k : Int) < (z : Int) := by omega
      have HS := Lib.hid (valN_at hx)
      clear hx
      go_wp2_with fail
      go_roundw
      case rel => exact ⟨k + 1, by omega, by go_num, by rw [HS.out, hv.out]; go_num, hbel⟩
      case measure => simp [intOf]; omega
    · have he : k = z := by omega
      subst he
      go_wp2_with fail
      go_ret
      exact ⟨by rw [hv.out]; rfl, hbel.out⟩
end Go.Proofs.YtmhjnghomihjlaaGreat
