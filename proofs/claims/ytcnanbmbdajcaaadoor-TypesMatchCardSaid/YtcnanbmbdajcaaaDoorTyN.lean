/- Two slices that read as the same nodes are equal; exchanging two variables twice changes nothing. Condition: at most 262144 nodes. -/
import Derived.Test.YtcnanbmbdajcaaaDoorTyD
import Derived.Deep.QuietTactic
import Derived.BigQuiet
namespace Go.Proofs.YtcnanbmbdajcaaaDoor
open Go.RowKit M

set_option maxRecDepth 100000 in
set_option maxHeartbeats 1600000 in
theorem equal_nodes (ts : List TN) (n : Nat) (hn : n = ts.length) (hm : n ≤ 262144) (A1 A2 : Option Addr) (c1 c2 : Nat) (w : World) (h1 : InC w A1 (ts.flatMap ndCells)) (h2 : InC w A2 (ts.flatMap ndCells)) :
    Calls Tryd.prog 14 #[.slice A1 n c1, .slice A2 n c2] w fun e w' => e = .returned (.bool true) ∧ ∃ m, w' = w.drewN m := by
  have H1 := hide h1
  have H2 := hide h2
  have HN := Lib.hid hn
  clear h1 h2 hn
  go_enter Tryd.func14, Tryd.ntmps14
  go_wp2_with fail
  go_loopw [5] (fun t wr => ∃ k : Nat, k ≤ n ∧ t = .int .i64 k ∧ Hid (∃ m, wr = w.drewN m)) (fun t _ => n - (intOf t).toNat)
  case atStart => exact ⟨0, by omega, rfl, 0, rfl⟩
  case round =>
    obtain ⟨k, hk, rfl, hW⟩ := hrel
    obtain ⟨m, rfl⟩ := hW
    by_cases hlt : k < n
    · obtain ⟨t, ht⟩ : ∃ t, ts[k]? = some t := by
        have : k < ts.length := by rw [← HN.out]; exact hlt
        exact ⟨ts[k], List.getElem?_eq_getElem this⟩
      obtain ⟨b1, o1, rfl, hb1, hc1⟩ := (unhide H1).elem nd_len ht (by decide)
      obtain ⟨b2, o2, rfl, hb2, hc2⟩ := (unhide H2).elem nd_len ht (by decide)
      obtain ⟨kd, nu, ki⟩ := t
      have x0 := hc1 0 _ rfl
      have x1 := hc1 1 _ rfl
      have x2 := hc1 2 _ rfl
      have y0 := hc2 0 _ rfl
      have y1 := hc2 1 _ rfl
      have y2 := hc2 2 _ rfl
      simp only [Nat.add_zero] at x0 y0 x1 x2 y1 y2
      clear ht hc1 hc2
      go_wp2
      go_quiet (fail)
      go_wp2
      go_roundw
      case rel => exact ⟨k + 1, by omega, by go_num, _, rfl⟩
      case measure => simp [intOf]; omega
    · go_wp2
      go_ret
      exact ⟨rfl, m, rfl⟩

theorem equal_nodes2 (ts : List TN) (n1 n2 : Nat) (hn1 : n1 = ts.length) (hn2 : n2 = ts.length) (hm : n2 ≤ 262144) (A1 A2 : Option Addr) (c1 c2 : Nat) (w : World) (h1 : InC w A1 (ts.flatMap ndCells)) (h2 : InC w A2 (ts.flatMap ndCells)) :
    Calls Tryd.prog 14 #[.slice A1 n1 c1, .slice A2 n2 c2] w fun e w' => e = .returned (.bool true) ∧ ∃ m, w' = w.drewN m := by
  have e : n1 = n2 := hn1.trans hn2.symm
  subst e
  exact equal_nodes ts n1 hn1 hm A1 A2 c1 c2 w h1 h2

theorem itK_all {f : List TN → Option (List TN)} (hf : ∀ ts r, f ts = some r → ∃ p, ts = p ++ r ∧ ∀ t ∈ p, vN t = true) : ∀ n ts r, itK f n ts = some r → ∃ p, ts = p ++ r ∧ ∀ t ∈ p, vN t = true := by
  intro n
  induction n with
  | zero => intro ts r h; simp only [itK, Option.some.injEq] at h; subst h; exact ⟨[], rfl, fun t ht => by simp at ht⟩
  | succ n ih =>
    intro ts r h
    unfold itK at h
    split at h
    · rename_i r' h'
      obtain ⟨p, rfl, hp⟩ := hf _ _ h'
      obtain ⟨q, rfl, hq⟩ := ih _ _ h
      exact ⟨p ++ q, by simp, fun t ht => (List.mem_append.1 ht).elim (hp t) (hq t)⟩
    · cases h
theorem bt_all : ∀ d ts r, bt d ts = some r → ∃ p, ts = p ++ r ∧ ∀ t ∈ p, vN t = true := by
  intro d
  induction d with
  | zero => intro ts r h; cases h
  | succ d ih =>
    intro ts r h
    cases ts with
    | nil => cases h
    | cons t l =>
      unfold bt at h
      split at h
      · rename_i hv
        obtain ⟨p, rfl, hp⟩ := itK_all ih _ _ _ h
        exact ⟨t :: p, rfl, fun u hu => (List.mem_cons.1 hu).elim (fun e => by rw [e]; exact hv) (hp u)⟩
      · cases h
theorem bt_valid {d : Nat} {ts : List TN} (h : bt d ts = some []) : ∀ t ∈ ts, vN t = true := by
  obtain ⟨p, rfl, hp⟩ := bt_all d ts [] h
  simpa using hp
theorem vN_var {t : TN} (h : vN t = true) (h1 : t.1 = 1) : t.2.2 = 0 := by
  unfold vN at h
  rw [if_pos (.inl h1)] at h
  simp at h
  exact h.1
def swapL : List Bd := [(0, [(1, 1, 0)]), (1, [(1, 0, 0)])]
def swapN (t : TN) : TN := if t.1 = 1 ∧ t.2.1 = 0 then (1, 1, t.2.2) else if t.1 = 1 ∧ t.2.1 = 1 then (1, 0, t.2.2) else t
theorem swapN_twice (t : TN) : swapN (swapN t) = t := by
  obtain ⟨k, num, kids⟩ := t
  unfold swapN
  by_cases h0 : k = 1 ∧ num = 0
  · obtain ⟨rfl, rfl⟩ := h0; rfl
  · by_cases h1 : k = 1 ∧ num = 1
    · obtain ⟨rfl, rfl⟩ := h1; rfl
    · rw [if_neg h0, if_neg h1, if_neg h0, if_neg h1]
theorem swapN_kids (t : TN) : (swapN t).2.2 = t.2.2 := by
  unfold swapN
  by_cases h0 : t.1 = 1 ∧ t.2.1 = 0
  · rw [if_pos h0]
  · rw [if_neg h0]
    by_cases h1 : t.1 = 1 ∧ t.2.1 = 1
    · rw [if_pos h1]
    · rw [if_neg h1]
theorem swapN_valid (t : TN) : vN (swapN t) = vN t := by
  obtain ⟨k, num, kids⟩ := t
  unfold swapN
  by_cases h0 : k = 1 ∧ num = 0
  · obtain ⟨rfl, rfl⟩ := h0; rfl
  · by_cases h1 : k = 1 ∧ num = 1
    · obtain ⟨rfl, rfl⟩ := h1; rfl
    · rw [if_neg h0, if_neg h1]
theorem apN_swap {t : TN} (h : vN t = true) : apN swapL t = [swapN t] := by
  obtain ⟨k, num, kids⟩ := t
  unfold apN swapN
  by_cases hk : k = 1
  · have h0 : kids = 0 := vN_var h hk
    subst hk h0
    rw [if_pos rfl]
    by_cases h0 : num = 0
    · subst h0; rfl
    · by_cases h1 : num = 1
      · subst h1; rfl
      · have : lk swapL num = none := by
          unfold lk swapL
          have q0 : ¬ (0 : Int) = num := fun e => h0 e.symm
          have q1 : ¬ (1 : Int) = num := fun e => h1 e.symm
          simp [q0, q1]
        rw [this, if_neg (by simp [h0]), if_neg (by simp [h1])]
        rfl
  · rw [if_neg hk, if_neg (fun q => hk q.1), if_neg (fun q => hk q.1)]
theorem apL_swap : ∀ ts : List TN, (∀ t ∈ ts, vN t = true) → apL swapL ts = ts.map swapN := by
  intro ts
  induction ts with
  | nil => intro _; rfl
  | cons a r ih =>
    intro h
    have e : apL swapL (a :: r) = apN swapL a ++ apL swapL r := by simp [apL]
    rw [e, apN_swap (h a (by simp)), ih (fun t ht => h t (by simp [ht]))]
    rfl
theorem subst_swap : subst swapL = true := by decide
theorem valT_swap (ts : List TN) : valT (ts.map swapN) = valT ts := by
  unfold valT
  rw [List.length_map, bt_map swapN_valid swapN_kids]
  cases h : bt 64 ts with
  | none => rfl
  | some r => cases r <;> simp
theorem applyM_swap {ts : List TN} (h : valT ts = true) : applyM swapL ts = ts.map swapN := by
  have hb : bt 64 ts = some [] := by unfold valT at h; simp at h; exact h.2
  unfold applyM
  rw [h, subst_swap, apL_swap ts (bt_valid hb), valT_swap, h]
  rfl
theorem applyM_swap2 {ts : List TN} (h : valT ts = true) : applyM swapL (applyM swapL ts) = ts := by
  rw [applyM_swap h, applyM_swap (by rw [valT_swap]; exact h), List.map_map]
  conv => rhs; rw [← List.map_id ts]
  exact List.map_congr_left fun t _ => swapN_twice t
theorem valT_of {d : Nat} {ts : List TN} (hd : d ≤ 64) (h : bt d ts = some []) (hl : ts.length ≤ 512) : valT ts = true := by
  unfold valT
  rw [bt_mono hd h, decide_eq_true hl]
  rfl

end Go.Proofs.YtcnanbmbdajcaaaDoor
