
/-
  The mathematics of JoinSome: packets parted one behind the other, some pieces of which never come. No condition.
-/
import Derived.Test.YtamdaepeogmboaaDoorGJsm
namespace Go.Proofs.YtamdaepeogmboaaDoor
set_option maxRecDepth 4000

/-- Behind i packets: how many pieces. -/
def jsF (ds : List (List Nat)) : Nat → Nat
  | 0 => 0
  | i + 1 => jsF ds i + frcnt (1 + i % 5) (ds.getD i []).length
def jsL (s : Bool) (ds : List (List Nat)) (i : Nat) : List Pc := frpcs s (jsF ds i) (1 + i % 5) (ds.getD i [])
def jsX (s : Bool) (ds : List (List Nat)) (P : Nat) : List Pc := ((List.range P).map (jsL s ds)).flatten
def jsG (cm : Nat → Bool) (ds : List (List Nat)) (i : Nat) : List Bool := (List.range (frcnt (1 + i % 5) (ds.getD i []).length)).map fun t => cm (jsF ds i + t)
def jsW (cm : Nat → Bool) (ds : List (List Nat)) (P : Nat) : List (List Nat) := ((List.range P).map fun i => if (jsG cm ds i).all id = true then [ds.getD i []] else []).flatten
section
variable {s : Bool} {ds : List (List Nat)} {cm : Nat → Bool}
theorem jsL_len (i : Nat) : (jsL s ds i).length = frcnt (1 + i % 5) (ds.getD i []).length := frpcs_len ..
theorem jsX_succ (P : Nat) : jsX s ds (P + 1) = jsX s ds P ++ jsL s ds P := by
  unfold jsX
  rw [List.range_succ, List.map_append, List.flatten_append]
  simp
theorem jsX_len : ∀ P, (jsX s ds P).length = jsF ds P
  | 0 => rfl
  | P + 1 => by rw [jsX_succ, List.length_append, jsX_len P, jsL_len]; rfl
theorem jsF_le {i j : Nat} (h : i ≤ j) : jsF ds i ≤ jsF ds j := by
  induction j with
  | zero => have : i = 0 := by omega
            subst this; exact Nat.le_refl _
  | succ j ih =>
    rcases Nat.eq_or_lt_of_le h with e | e
    · subst e; exact Nat.le_refl _
    · exact Nat.le_trans (ih (by omega)) (Nat.le_add_right _ _)
theorem frcnt_60 {m n : Nat} (h : n ≤ 60) : frcnt m n ≤ 60 := by
  rcases Nat.eq_zero_or_pos n with e | e
  · subst e
    have : frcnt m 0 = 1 := by simp [frcnt]
    omega
  · exact Nat.le_trans (frcnt_le m n e) h
theorem jsF_60 (h : ∀ i, (ds.getD i []).length ≤ 60) : ∀ P, jsF ds P ≤ 60 * P
  | 0 => Nat.le_refl _
  | P + 1 => by
    have h1 := jsF_60 h P
    have h2 := frcnt_60 (m := 1 + P % 5) (h P)
    show jsF ds P + frcnt (1 + P % 5) (ds.getD P []).length ≤ _
    omega
theorem jsX_at {P i t : Nat} (hi : i < P) (ht : t < frcnt (1 + i % 5) (ds.getD i []).length) : (jsX s ds P)[jsF ds i + t]? = (jsL s ds i)[t]? := by
  induction P with
  | zero => omega
  | succ P ih =>
    rw [jsX_succ]
    rcases Nat.eq_or_lt_of_le (Nat.le_of_lt_succ hi) with e | e
    · subst e
      rw [List.getElem?_append_right (by rw [jsX_len]; omega), jsX_len]
      congr 1
      omega
    · have h1 : jsF ds (i + 1) ≤ jsF ds P := jsF_le e
      have h2 : jsF ds (i + 1) = jsF ds i + frcnt (1 + i % 5) (ds.getD i []).length := rfl
      rw [List.getElem?_append_left (by rw [jsX_len]; omega)]
      exact ih e
theorem jsX_num {P : Nat} (h : jsF ds P ≤ frmod s) {g : Nat} {x : Pc} (hx : (jsX s ds P)[g]? = some x) : x.n = (g : Int) := by
  induction P with
  | zero => simp [jsX] at hx
  | succ P ih =>
    have h0 : jsF ds (P + 1) = jsF ds P + frcnt (1 + P % 5) (ds.getD P []).length := rfl
    rw [jsX_succ] at hx
    by_cases hg : g < jsF ds P
    · rw [List.getElem?_append_left (by rw [jsX_len]; omega)] at hx
      exact ih (by omega) hx
    · rw [List.getElem?_append_right (by rw [jsX_len]; omega), jsX_len] at hx
      have h1 := (List.getElem?_eq_some_iff.1 hx).1
      rw [jsL_len] at h1
      have := frpcs_num hx (by omega)
      rw [this]
      congr 1
      omega
theorem jsG_flat : ∀ P, ((List.range P).map (jsG cm ds)).flatten = (List.range (jsF ds P)).map cm
  | 0 => rfl
  | P + 1 => by
    show _ = (List.range (jsF ds P + frcnt (1 + P % 5) (ds.getD P []).length)).map cm
    rw [List.range_succ, List.map_append, List.flatten_append, jsG_flat P, List.range_add, List.map_append, List.map_map]
    simp [jsG, Function.comp_def]
theorem jsG_len (i : Nat) : (jsG cm ds i).length = frcnt (1 + i % 5) (ds.getD i []).length := by simp [jsG]
theorem jsG_step {i k : Nat} (hk : k < frcnt (1 + i % 5) (ds.getD i []).length) : ((jsG cm ds i).take (k + 1)).all id = (((jsG cm ds i).take k).all id && cm (jsF ds i + k)) := by
  have h : (jsG cm ds i)[k]? = some (cm (jsF ds i + k)) := by
    unfold jsG
    rw [List.getElem?_map, List.getElem?_range hk]
    rfl
  rw [List.take_add_one, h, List.all_append]
  simp
theorem jsG_full (i : Nat) : (jsG cm ds i).take (frcnt (1 + i % 5) (ds.getD i []).length) = jsG cm ds i := List.take_of_length_le (by rw [jsG_len]; exact Nat.le_refl _)
theorem jsW_succ (P : Nat) : jsW cm ds (P + 1) = jsW cm ds P ++ (if (jsG cm ds P).all id = true then [ds.getD P []] else []) := by
  unfold jsW
  rw [List.range_succ, List.map_append, List.flatten_append]
  simp
end
theorem zip_range {α β : Type} (f : List Nat → β → α) (g : Nat → β) (ds : List (List Nat)) : List.zipWith f ds ((List.range ds.length).map g) = (List.range ds.length).map fun i => f (ds.getD i []) (g i) := by
  apply List.ext_getElem?
  intro i
  rw [List.getElem?_zipWith, List.getElem?_map, List.getElem?_map]
  by_cases h : i < ds.length
  · rw [List.getElem?_range h, List.getElem?_eq_getElem h]
    simp [List.getD, h]
  · rw [List.getElem?_eq_none (by omega), List.getElem?_eq_none (show (List.range ds.length).length ≤ i by rw [List.length_range]; omega)]
    rfl
/-- What the law's loop knows behind g pieces, G told. -/
structure Jso (s : Bool) (ds : List (List Nat)) (P n : Nat) (cm : Nat → Bool) (g : Nat) (G : List Ev) (j : Jn) : Prop where
  ex : ∃ c m T, Jsm (jsX s ds P) n (fun a => cm a && decide (a < g)) c (jnew s n 4096 100) T m j ∧ G = T ++ j.told ∧ c ≤ g
  sh : j.sh = s
  room : j.room = 4096
  wt : j.wait.length ≤ g
section
variable {s : Bool} {ds : List (List Nat)} {cm : Nat → Bool} {P n g : Nat} {G : List Ev} {j : Jn}
theorem Jso.start : Jso s ds P n cm 0 [] (jnew s n 4096 100) := by
  refine ⟨⟨0, 0, [], ?_, rfl, Nat.le_refl _⟩, rfl, rfl, Nat.zero_le _⟩
  have h := Jsm.start (X := jsX s ds P) (n := n) s 4096 100
  rwa [show (fun a => cm a && decide (a < 0)) = fun _ => false from by funext a; simp]
theorem Jso.ln (h : Jso s ds P n cm g G j) : j.last.length = n := by
  obtain ⟨c, m, T, h1, _, _⟩ := h.ex
  exact h1.ln
theorem Jso.next (h : Jso s ds P n cm g G j) : j.next ≤ (g : Int) := by
  obtain ⟨c, m, T, h1, _, h3⟩ := h.ex
  rw [h1.nx]
  have := h1.mc
  omega
theorem Jso.lost (h : Jso s ds P n cm g G j) (hg : cm g = false) : Jso s ds P n cm (g + 1) G j := by
  obtain ⟨c, m, T, h1, h2, h3⟩ := h.ex
  refine ⟨⟨c, m, T, ?_, h2, by omega⟩, h.sh, h.room, by have := h.wt; omega⟩
  rwa [show (fun a => cm a && decide (a < g + 1)) = fun a => cm a && decide (a < g) from by
    funext a
    by_cases e : a = g
    · subst e; simp [hg]
    · congr 1
      exact decide_eq_decide.2 (by omega)]
theorem Jso.feed (h : Jso s ds P n cm g G j) (hg : cm g = true) (hn : 0 < n) {k : Nat} {x : Pc} (hk : k < n) (hx : (jsX s ds P)[g]? = some x) (hnum : x.n = (g : Int)) (hF : jsF ds P ≤ frmod s) (hg2 : g < 4096) :
    Jso s ds P n cm (g + 1) (G ++ (jfeed j k x).told) (jfeed j k x) := by
  obtain ⟨c, m, T, h1, h2, h3⟩ := h.ex
  have hw := h.wt
  obtain ⟨m', h4, _, h5, h6, h7⟩ := h1.feed hn hk hx hnum (by rw [jsX_len, h.sh]; exact hF) h3 (by rw [h.room]; omega)
  refine ⟨⟨g + 1, m', T ++ j.told, ?_, by rw [h2], Nat.le_refl _⟩, h6.trans h.sh, h7.trans h.room, by omega⟩
  rwa [show (fun a => cm a && decide (a < g + 1)) = fun a => (cm a && decide (a < g)) || decide (a = g) from by
    funext a
    by_cases e : a = g
    · subst e; simp [hg]
    · rw [show decide (a < g + 1) = decide (a < g) from decide_eq_decide.2 (by omega), show decide (a = g) = false from decide_eq_false e, Bool.or_false]]
theorem Jso.done (h : Jso s ds ds.length n cm (jsF ds ds.length) G j) (hn : 0 < n) (hst : jstp j = none) (hd : ∀ d ∈ ds, d.length ≤ 60) (hF : jsF ds ds.length ≤ 4611686018427387904) :
    (jflush j).wait = [] ∧ (jflush j).next ≤ (jsF ds ds.length : Int) ∧ jwh (G ++ (jflush j).told) = jsW cm ds ds.length ∧ ∀ e ∈ G ++ (jflush j).told, (e.k = 1 → 1 ≤ e.m) ∧ e.k ≠ 3 := by
  obtain ⟨c, m, T, h1, h2, h3⟩ := h.ex
  obtain ⟨m', h4, h5⟩ := h1.flush hn hst (by omega)
  refine ⟨h5, by rw [h4.nx]; have := h4.mc; omega, ?_⟩
  obtain ⟨ev, r, g1, g2, g3, g4⟩ := packets_some ((List.range ds.length).map (jsL s ds)) ((List.range ds.length).map (jsG cm ds)) ds (by simp) (by simp) (fun i l d f hl hd' hf => by
    have hi := (List.getElem?_eq_some_iff.1 hd').1
    rw [List.getElem?_map, List.getElem?_range hi] at hl hf
    injection hl with hl
    injection hf with hf
    subst hl hf
    have e : ds.getD i [] = d := by simp [List.getD, hd']
    refine ⟨?_, by rw [jsG_len, jsL_len]⟩
    have := frpcs_packet s (jsF ds i) (1 + i % 5) (ds.getD i []) (by omega)
    rw [e] at this
    show IsPacket (frpcs s (jsF ds i) (1 + i % 5) (ds.getD i [])) d
    rw [e]
    exact this) (jnew s n 4096 100) (by show (0 : Int) ≠ 1; decide) (fun d hd' => by have := hd d hd'; show _ ≤ (100 : Int); omega)
  have hz := jopt_flat ((List.range ds.length).map (jsL s ds)) ((List.range ds.length).map (jsG cm ds)) (by simp) (fun i l f hl hf => by
    have hi : i < ds.length := by have := (List.getElem?_eq_some_iff.1 hl).1; simpa using this
    rw [List.getElem?_map, List.getElem?_range hi] at hl hf
    injection hl with hl
    injection hf with hf
    subst hl hf
    rw [jsG_len, jsL_len])
  have hm : (List.range (jsX s ds ds.length).length).map (fun a => cm a && decide (a < jsF ds ds.length)) = ((List.range ds.length).map (jsG cm ds)).flatten := by
    rw [jsG_flat, jsX_len]
    apply List.map_congr_left
    intro a ha
    rw [List.mem_range] at ha
    simp [ha]
  have hR := h4.done (r := r) (ev := ev) h5 (by rw [jsX_len]; exact h3) (hr := by rw [hm]; show ((jopt ((List.range ds.length).map (jsL s ds)).flatten _).foldl jB _) = r; rw [hz]; exact g1) (ht := by rw [g2]; rfl) g3
  rw [h2]
  refine ⟨?_, hR.2⟩
  rw [hR.1, g4, zip_range]
  rfl
end
/-- Packets up to the first that is too long. -/
theorem js_pre : ∀ ls : List (List Nat), ∃ ds rest, ls = ds ++ rest ∧ (∀ d ∈ ds, d.length ≤ 60) ∧ (rest = [] ∨ ∃ x r, rest = x :: r ∧ 60 < x.length)
  | [] => ⟨[], [], rfl, (fun _ h => by cases h), .inl rfl⟩
  | x :: l => by
    by_cases hx : x.length ≤ 60
    · obtain ⟨ds, rest, h1, h2, h3⟩ := js_pre l
      refine ⟨x :: ds, rest, by rw [h1]; rfl, fun d hd => ?_, h3⟩
      rcases List.mem_cons.1 hd with e | e
      · rw [e]; exact hx
      · exact h2 d e
    · exact ⟨[], x :: l, rfl, (fun _ h => by cases h), .inr ⟨x, l, rfl, by omega⟩⟩
theorem js_getD {ds : List (List Nat)} (h : ∀ d ∈ ds, d.length ≤ 60) (i : Nat) : (ds.getD i []).length ≤ 60 := by
  rcases Nat.lt_or_ge i ds.length with e | e
  · have h1 : ds.getD i [] = ds[i] := by simp [List.getD, e]
    rw [h1]
    exact h _ (List.getElem_mem e)
  · have h1 : ds.getD i [] = [] := by simp [List.getD, List.getElem?_eq_none e]
    rw [h1]
    exact Nat.zero_le _
theorem jsF_1200 {ds : List (List Nat)} (h : ∀ d ∈ ds, d.length ≤ 60) (hl : ds.length ≤ 20) {i : Nat} (hi : i ≤ ds.length) : jsF ds i ≤ 1200 := by
  have := jsF_60 (js_getD h) i
  omega
theorem jsL_dat {s : Bool} {ds : List (List Nat)} (h : ∀ d ∈ ds, d.length ≤ 60) {i t : Nat} {x : Pc} (hx : (jsL s ds i)[t]? = some x) : x.d.length ≤ 60 := by
  obtain ⟨_, rfl⟩ := frpcs_get hx
  show (frchk _ _ _).length ≤ 60
  unfold frchk
  rw [List.length_take, List.length_drop]
  have := js_getD h i
  omega
theorem js_mb (s : Bool) {g : Nat} (hg : g < 1200) : (g : Int) * (frmod s : Int) + (frmod s : Int) ≤ 68719476736 ∧ (g : Int) * (frmod s : Int) + (frmod s : Int) = ((g + 1 : Nat) : Int) * (frmod s : Int) := by
  cases s
  · show (g : Int) * 16777216 + 16777216 ≤ _ ∧ (g : Int) * 16777216 + 16777216 = ((g + 1 : Nat) : Int) * 16777216
    omega
  · show (g : Int) * 4096 + 4096 ≤ _ ∧ (g : Int) * 4096 + 4096 = ((g + 1 : Nat) : Int) * 4096
    omega
theorem js_mc (s : Bool) {g : Nat} (hg : g ≤ 1200) : (g : Int) * (frmod s : Int) ≤ 68719476736 := by
  cases s
  · show (g : Int) * 16777216 ≤ _
    omega
  · show (g : Int) * 4096 ≤ _
    omega
theorem js_mod (s : Bool) : 4096 ≤ frmod s := by cases s <;> simp [frmod]
/-! The Wholes, one by one. -/
theorem jwh_step {G : List Ev} {i : Nat} {x : Ev} (h : G[i]? = some x) : jwh (G.take (i + 1)) = jwh (G.take i) ++ (if x.k = 0 then [x.d] else []) := by
  rw [List.take_add_one, h, jwh_app]
  congr 1
  show ([x].filterMap fun e => if e.k = 0 then some e.d else none) = _
  by_cases e : x.k = 0 <;> simp [e]
theorem jwh_at {G : List Ev} {i : Nat} {x : Ev} (h : G[i]? = some x) (hk : x.k = 0) : (jwh G)[(jwh (G.take i)).length]? = some x.d := by
  have e : G = G.take (i + 1) ++ G.drop (i + 1) := (List.take_append_drop _ _).symm
  have h2 := jwh_step h
  rw [if_pos hk] at h2
  have h3 : jwh G = jwh (G.take i) ++ ([x.d] ++ jwh (G.drop (i + 1))) := by
    conv => lhs; rw [e]
    rw [jwh_app, h2, List.append_assoc]
  rw [h3, List.getElem?_append_right (Nat.le_refl _), Nat.sub_self]
  rfl
end Go.Proofs.YtamdaepeogmboaaDoor
