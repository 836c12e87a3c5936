import PyProof.Rows.All
import Wide.All
import OpenK.AllK
import Wide.FinOn
import PySem.Challenge.RW_spanloops_k07_whole_unions_agree
import HandS.ForMost
import HandS.Wide
import HandS.Walk
import HandS.SortRule
import HandS.Defaults
import HandS.IsInst
import HandS.ClsMeth
import HandS.TupLe
import KE.GoesMore
set_option Elab.async false
set_option linter.all false
set_option maxRecDepth 100000
set_option maxHeartbeats 4000000
namespace Spk
/-! ### pairs of edges, the union as a function on lists of pairs -/
abbrev Pr := Int × Int
def ple (p q : Pr) : Prop := p.1 < q.1 ∨ (p.1 = q.1 ∧ p.2 ≤ q.2)
instance (p q : Pr) : Decidable (ple p q) := inferInstanceAs (Decidable (_ ∨ _))
theorem ple_trans {p q r : Pr} (a : ple p q) (b : ple q r) : ple p r := by unfold ple at *; omega
theorem ple_total (p q : Pr) : ple p q ∨ ple q p := by unfold ple; omega
theorem ple_anti {p q : Pr} (a : ple p q) (b : ple q p) : p = q := by
  obtain ⟨x, y⟩ := p; obtain ⟨z, w⟩ := q
  simp only [ple] at a b
  have : x = z := by omega
  have : y = w := by omega
  subst x; subst y; rfl
theorem ple_refl (p : Pr) : ple p p := by unfold ple; omega
def ins (p : Pr) : List Pr → List Pr
  | [] => [p]
  | q :: r => if ple p q then p :: q :: r else q :: ins p r
def srt : List Pr → List Pr
  | [] => []
  | p :: r => ins p (srt r)
theorem ins_perm (p : Pr) : ∀ l, (ins p l).Perm (p :: l)
  | [] => .refl _
  | q :: r => by
    unfold ins
    split
    · exact .refl _
    · exact ((ins_perm p r).cons q).trans (List.Perm.swap p q r)
theorem srt_perm : ∀ l, (srt l).Perm l
  | [] => .refl _
  | p :: r => (ins_perm p _).trans ((srt_perm r).cons p)
theorem ins_sorted (p : Pr) : ∀ l, l.Pairwise ple → (ins p l).Pairwise ple
  | [], _ => by simp [ins]
  | q :: r, h => by
    unfold ins
    have hq := List.pairwise_cons.mp h
    split
    · rename_i c
      refine List.pairwise_cons.mpr ⟨fun y hy => ?_, h⟩
      rcases List.mem_cons.mp hy with e | hy
      · exact e ▸ c
      · exact ple_trans c (hq.1 y hy)
    · rename_i c
      refine List.pairwise_cons.mpr ⟨fun y hy => ?_, ins_sorted p r hq.2⟩
      have := (ins_perm p r).mem_iff.mp hy
      rcases List.mem_cons.mp this with e | hy
      · rw [e]; exact (ple_total p q).resolve_left c
      · exact hq.1 y hy
theorem srt_sorted : ∀ l, (srt l).Pairwise ple
  | [] => List.Pairwise.nil
  | p :: r => ins_sorted p _ (srt_sorted r)
theorem sorted_uniq : ∀ {l m : List Pr}, l.Pairwise ple → m.Pairwise ple → l.Perm m → l = m
  | [], m, _, _, h => (List.Perm.nil_eq h)
  | x :: l, [], _, _, h => absurd h.length_eq (by simp)
  | x :: l, y :: m, hl, hm, h => by
    have h1 := List.pairwise_cons.mp hl
    have h2 := List.pairwise_cons.mp hm
    have a : ple x y := by
      rcases List.mem_cons.mp (h.mem_iff.mpr (List.mem_cons_self (a := y) (l := m))) with e | q
      · rw [e]; exact ple_refl x
      · exact h1.1 y q
    have b : ple y x := by
      rcases List.mem_cons.mp (h.mem_iff.mp (List.mem_cons_self (a := x) (l := l))) with e | q
      · rw [e]; exact ple_refl y
      · exact h2.1 x q
    have e := ple_anti a b
    subst e
    rw [sorted_uniq h1.2 h2.2 h.cons_inv]
/-- one turn of join_sorted's loop -/
def stepJ (s : List Pr × Pr) (p : Pr) : List Pr × Pr :=
  if s.2.2 < p.1 then (s.1 ++ [s.2], p) else (s.1, (s.2.1, if s.2.2 < p.2 then p.2 else s.2.2))
def joinF : List Pr → List Pr
  | [] => []
  | p :: r => let s := (p :: r).foldl stepJ ([], p); s.1 ++ [s.2]
/-- the same by recursion -/
def joinG (c : Pr) : List Pr → List Pr
  | [] => [c]
  | p :: r => if c.2 < p.1 then c :: joinG p r else joinG (c.1, if c.2 < p.2 then p.2 else c.2) r
theorem fold_joinG : ∀ (l : List Pr) (acc : List Pr) (c : Pr), (let s := l.foldl stepJ (acc, c); s.1 ++ [s.2]) = acc ++ joinG c l
  | [], acc, c => rfl
  | p :: r, acc, c => by
    simp only [List.foldl_cons, joinG, stepJ]
    split
    · have := fold_joinG r (acc ++ [c]) p
      simp only at this
      rw [this, List.append_assoc]; rfl
    · have := fold_joinG r acc (c.1, if c.2 < p.2 then p.2 else c.2)
      simp only at this
      rw [this]
def joinM : List Pr → List Pr
  | [] => []
  | p :: r => joinG p (p :: r)
theorem joinF_eq : ∀ l, joinF l = joinM l
  | [] => rfl
  | p :: r => by
    have := fold_joinG (p :: r) [] p
    simp only [List.nil_append] at this
    exact this
def gapd : List Pr → Bool
  | [] => true
  | [_] => true
  | p :: q :: r => decide (p.2 < q.1) && gapd (q :: r)
/-- z: whether ends are read as shut -/
def emp (z : Bool) (p : Pr) : Bool := if z then decide (p.2 < p.1) else decide (p.2 ≤ p.1)
def unionM (z : Bool) (l : List Pr) : List Pr := joinM (srt (l.filter fun p => !emp z p))
def oneF (z : Bool) (l : List Pr) : Bool := l.all (fun p => !emp z p) && gapd l
theorem joinG_head : ∀ (l : List Pr) (c : Pr), ∃ h r, joinG c l = (c.1, h) :: r
  | [], c => ⟨c.2, [], rfl⟩
  | p :: r, c => by
    unfold joinG
    split
    · exact ⟨c.2, _, rfl⟩
    · exact joinG_head r (c.1, if c.2 < p.2 then p.2 else c.2)
theorem joinG_gapd : ∀ (l : List Pr) (c : Pr), gapd (joinG c l) = true
  | [], c => rfl
  | p :: r, c => by
    unfold joinG
    split
    · rename_i h
      obtain ⟨hh, rr, e⟩ := joinG_head r p
      have ih := joinG_gapd r p
      rw [e] at ih ⊢
      unfold gapd
      rw [ih, decide_eq_true (by exact h)]; rfl
    · exact joinG_gapd r _
theorem joinG_full {z : Bool} : ∀ (l : List Pr) (c : Pr), emp z c = false → (∀ p ∈ l, emp z p = false) → ∀ p ∈ joinG c l, emp z p = false
  | [], c, hc, _, p, hp => by
    rw [joinG] at hp
    obtain rfl : p = c := by simpa using hp
    exact hc
  | q :: r, c, hc, hl, p, hp => by
    unfold joinG at hp
    split at hp
    · rcases List.mem_cons.mp hp with e | hp
      · exact e ▸ hc
      · exact joinG_full r q (hl q (by simp)) (fun x hx => hl x (by simp [hx])) p hp
    · refine joinG_full r _ ?_ (fun x hx => hl x (by simp [hx])) p hp
      unfold emp at hc ⊢
      cases z <;> simp at hc ⊢ <;> split <;> omega
theorem joinM_one {z : Bool} {l : List Pr} (h : ∀ p ∈ l, emp z p = false) : oneF z (joinM l) = true := by
  cases l with
  | nil => rfl
  | cons p r =>
    unfold oneF joinM
    rw [joinG_gapd, Bool.and_true, List.all_eq_true]
    intro q hq
    rw [joinG_full (z := z) (p :: r) p (h p (by simp)) h q hq]; rfl
theorem joinG_id : ∀ (l : List Pr) (c : Pr), gapd (c :: l) = true → joinG c l = c :: l
  | [], c, _ => rfl
  | p :: r, c, h => by
    unfold gapd at h
    rw [Bool.and_eq_true, decide_eq_true_eq] at h
    unfold joinG
    rw [if_pos h.1, joinG_id r p h.2]
theorem joinM_id {l : List Pr} (h : gapd l = true) (hs : ∀ p ∈ l, p.1 ≤ p.2) : joinM l = l := by
  cases l with
  | nil => rfl
  | cons p r =>
    have : p.1 ≤ p.2 := hs p (by simp)
    show joinG p (p :: r) = p :: r
    unfold joinG
    rw [if_neg (show ¬ p.2 < p.1 by omega), if_neg (show ¬ p.2 < p.2 by omega)]
    exact joinG_id r p h
theorem gapd_tail {p : Pr} {r : List Pr} (h : gapd (p :: r) = true) : gapd r = true := by
  cases r with
  | nil => rfl
  | cons q r => unfold gapd at h; rw [Bool.and_eq_true] at h; exact h.2
theorem gapd_lt : ∀ {p : Pr} {r : List Pr}, gapd (p :: r) = true → (∀ q ∈ r, q.1 ≤ q.2) → ∀ q ∈ r, p.2 < q.1
  | p, [], _, _, q, hq => by simp at hq
  | p, q :: r, h, hs, x, hx => by
    unfold gapd at h
    rw [Bool.and_eq_true, decide_eq_true_eq] at h
    rcases List.mem_cons.mp hx with e | hx
    · exact e ▸ h.1
    · have := gapd_lt h.2 (fun y hy => hs y (by simp [hy])) x hx
      have := hs q (by simp)
      omega
theorem gapd_sorted : ∀ {l : List Pr}, gapd l = true → (∀ q ∈ l, q.1 ≤ q.2) → l.Pairwise ple
  | [], _, _ => .nil
  | p :: r, h, hs => List.pairwise_cons.mpr ⟨fun q hq => by
      have := gapd_lt h (fun y hy => hs y (by simp [hy])) q hq
      have := hs p (by simp)
      exact .inl (by omega), gapd_sorted (gapd_tail h) fun y hy => hs y (by simp [hy])⟩
/-- the union leaves a list as it is just where the list is in one form -/
theorem union_fix {z : Bool} {l : List Pr} (hs : ∀ p ∈ l, p.1 ≤ p.2) : unionM z l = l ↔ oneF z l = true := by
  constructor
  · intro h
    rw [← h]
    unfold unionM
    refine joinM_one fun p hp => ?_
    have := (srt_perm _).mem_iff.mp hp
    have := (List.mem_filter.mp this).2
    simpa using this
  · intro h
    unfold oneF at h
    rw [Bool.and_eq_true, List.all_eq_true] at h
    unfold unionM
    have e1 : l.filter (fun p => !emp z p) = l := List.filter_eq_self.mpr h.1
    have e2 : srt l = l := sorted_uniq (srt_sorted l) (gapd_sorted h.2 hs) (srt_perm l)
    rw [e1, e2, joinM_id h.2 hs]
end Spk

namespace Spk
/-! ### what a list of pairs covers, on a doubled line: (b, e) covers 2b .. 2e - 1, and 2e too if ends are shut -/
def covP (z : Bool) (p : Pr) (m : Int) : Prop := 2 * p.1 ≤ m ∧ m < 2 * p.2 + (if z then 1 else 0)
def cov (z : Bool) (l : List Pr) (m : Int) : Prop := ∃ p ∈ l, covP z p m
theorem cov_nil {z : Bool} {m : Int} : ¬ cov z [] m := fun ⟨_, h, _⟩ => by simp at h
theorem cov_cons {z : Bool} {p : Pr} {l : List Pr} {m : Int} : cov z (p :: l) m ↔ covP z p m ∨ cov z l m := by
  unfold cov; simp
theorem cov_app {z : Bool} {l k : List Pr} {m : Int} : cov z (l ++ k) m ↔ cov z l m ∨ cov z k m := by
  induction l with
  | nil => simp [cov_nil]
  | cons p r ih => rw [List.cons_append, cov_cons, cov_cons, ih, or_assoc]
theorem cov_perm {z : Bool} {l k : List Pr} (h : l.Perm k) {m : Int} : cov z l m ↔ cov z k m :=
  ⟨fun ⟨p, hp, c⟩ => ⟨p, h.mem_iff.mp hp, c⟩, fun ⟨p, hp, c⟩ => ⟨p, h.mem_iff.mpr hp, c⟩⟩
theorem emp_cov {z : Bool} {p : Pr} (h : emp z p = true) (m : Int) : ¬ covP z p m := by
  unfold emp at h; unfold covP
  cases z <;> simp at h ⊢ <;> omega
theorem full_cov {z : Bool} {p : Pr} (h : emp z p = false) : covP z p (2 * p.1) := by
  unfold emp at h; unfold covP
  cases z <;> simp at h ⊢ <;> omega
theorem cov_filter {z : Bool} {l : List Pr} {m : Int} : cov z (l.filter fun p => !emp z p) m ↔ cov z l m := by
  constructor
  · rintro ⟨p, hp, c⟩
    exact ⟨p, (List.mem_filter.mp hp).1, c⟩
  · rintro ⟨p, hp, c⟩
    refine ⟨p, List.mem_filter.mpr ⟨hp, ?_⟩, c⟩
    cases e : emp z p with
    | true => exact absurd c (emp_cov e m)
    | false => rfl
theorem cov_merge {z : Bool} {c p : Pr} (h1 : c.1 ≤ p.1) (h2 : p.1 ≤ c.2) {m : Int} : covP z (c.1, if c.2 < p.2 then p.2 else c.2) m ↔ covP z c m ∨ covP z p m := by
  unfold covP
  cases z <;> simp <;> split <;> omega
theorem cov_joinG {z : Bool} : ∀ (l : List Pr) (c : Pr), (∀ p ∈ l, c.1 ≤ p.1) → l.Pairwise ple → ∀ m, cov z (joinG c l) m ↔ covP z c m ∨ cov z l m
  | [], c, _, _, m => by simp [joinG, cov_cons, cov_nil]
  | p :: r, c, h, hs, m => by
    have hs' := List.pairwise_cons.mp hs
    have hle : ∀ q ∈ r, p.1 ≤ q.1 := fun q hq => by have := hs'.1 q hq; unfold ple at this; omega
    unfold joinG
    split
    · rw [cov_cons, cov_joinG r p hle hs'.2 m, cov_cons]
    · rename_i hn
      rw [cov_joinG r (c.1, if c.2 < p.2 then p.2 else c.2) (fun q hq => h q (by simp [hq])) hs'.2 m, cov_merge (h p (by simp)) (by omega), cov_cons, or_assoc]
theorem cov_joinM {z : Bool} {l : List Pr} (hs : l.Pairwise ple) (m : Int) : cov z (joinM l) m ↔ cov z l m := by
  cases l with
  | nil => rfl
  | cons p r =>
    have hs' := List.pairwise_cons.mp hs
    have hle : ∀ q ∈ p :: r, p.1 ≤ q.1 := fun q hq => by
      rcases List.mem_cons.mp hq with e | hq
      · rw [e]; exact Int.le_refl _
      · have := hs'.1 q hq; unfold ple at this; omega
    show cov z (joinG p (p :: r)) m ↔ _
    rw [cov_joinG (p :: r) p hle hs m, cov_cons]
    exact ⟨fun h => h.elim Or.inl id, Or.inr⟩
/-- the union covers what the list covers -/
theorem cov_union (z : Bool) (l : List Pr) (m : Int) : cov z (unionM z l) m ↔ cov z l m := by
  unfold unionM
  rw [cov_joinM (srt_sorted _), cov_perm (srt_perm _), cov_filter]
theorem union_one (z : Bool) (l : List Pr) : oneF z (unionM z l) = true := by
  unfold unionM
  refine joinM_one fun p hp => ?_
  have := (List.mem_filter.mp ((srt_perm _).mem_iff.mp hp)).2
  simpa using this
theorem oneF_cons {z : Bool} {p : Pr} {l : List Pr} (h : oneF z (p :: l) = true) : emp z p = false ∧ oneF z l = true ∧ gapd (p :: l) = true := by
  unfold oneF at h ⊢
  simp only [List.all_cons, Bool.and_eq_true] at h
  exact ⟨by simpa using h.1.1, by rw [Bool.and_eq_true]; exact ⟨h.1.2, gapd_tail h.2⟩, h.2⟩
theorem emp_le {z : Bool} {p : Pr} (h : emp z p = false) : p.1 ≤ p.2 := by
  unfold emp at h
  cases z <;> simp at h <;> omega
theorem oneF_le {z : Bool} {l : List Pr} (h : oneF z l = true) : ∀ q ∈ l, q.1 ≤ q.2 := fun q hq => by
  unfold oneF at h
  rw [Bool.and_eq_true, List.all_eq_true] at h
  exact emp_le (z := z) (by simpa using h.1 q hq)
/-- what stands behind the first pair of a list in one form lies beyond it -/
theorem cov_beyond {z : Bool} {p : Pr} {l : List Pr} (h : oneF z (p :: l) = true) {m : Int} (c : cov z l m) : 2 * p.2 + 1 < m := by
  obtain ⟨q, hq, c1, c2⟩ := c
  obtain ⟨_, h2, h3⟩ := oneF_cons h
  have := gapd_lt h3 (oneF_le h2) q hq
  omega
/-- a list in one form is told by what it covers -/
theorem one_uniq {z : Bool} : ∀ {l k : List Pr}, oneF z l = true → oneF z k = true → (∀ m, cov z l m ↔ cov z k m) → l = k
  | [], [], _, _, _ => rfl
  | [], q :: k, _, hk, h => absurd ((h (2 * q.1)).mpr (cov_cons.mpr (.inl (full_cov (oneF_cons hk).1)))) cov_nil
  | p :: l, [], hl, _, h => absurd ((h (2 * p.1)).mp (cov_cons.mpr (.inl (full_cov (oneF_cons hl).1)))) cov_nil
  | p :: l, q :: k, hl, hk, h => by
    obtain ⟨p1, p2, p3⟩ := oneF_cons hl
    obtain ⟨q1, q2, q3⟩ := oneF_cons hk
    have lp := emp_le p1
    have lq := emp_le q1
    have at_ : ∀ {p q : Pr} {l k : List Pr}, oneF z (p :: l) = true → oneF z (q :: k) = true → (∀ m, cov z (p :: l) m ↔ cov z (q :: k) m) → q.1 ≤ p.1 := by
      intro p q l k hl hk h
      obtain ⟨p1, _, _⟩ := oneF_cons hl
      obtain ⟨q1, _, _⟩ := oneF_cons hk
      have lq := emp_le q1
      rcases cov_cons.mp ((h (2 * p.1)).mp (cov_cons.mpr (.inl (full_cov p1)))) with c | c
      · have := c.1; omega
      · have := cov_beyond hk c; omega
    have e1 : p.1 = q.1 := by
      have a := at_ hl hk h
      have b := at_ hk hl fun m => (h m).symm
      omega
    have en : ∀ {p q : Pr} {l k : List Pr}, oneF z (p :: l) = true → oneF z (q :: k) = true → (∀ m, cov z (p :: l) m ↔ cov z (q :: k) m) → p.1 = q.1 → q.2 ≤ p.2 := by
      intro p q l k hl hk h e
      obtain ⟨p1, _, _⟩ := oneF_cons hl
      obtain ⟨q1, _, _⟩ := oneF_cons hk
      have lp := emp_le p1
      refine Classical.byContradiction fun hc => ?_
      have hx : cov z (q :: k) (2 * p.2 + 1) := cov_cons.mpr (.inl ⟨by omega, by split <;> omega⟩)
      rcases cov_cons.mp ((h _).mpr hx) with c | c
      · have := c.2
        cases z <;> simp at this
        omega
      · have := cov_beyond hl c; omega
    have e2 : p.2 = q.2 := by
      have a := en hl hk h e1
      have b := en hk hl (fun m => (h m).symm) e1.symm
      omega
    have e : p = q := Prod.ext e1 e2
    subst e
    rw [one_uniq p2 q2 fun m => ?_]
    constructor
    · intro c
      rcases cov_cons.mp ((h m).mp (cov_cons.mpr (.inr c))) with d | d
      · have := cov_beyond hl c
        have := d.2
        cases z <;> simp at this <;> omega
      · exact d
    · intro c
      rcases cov_cons.mp ((h m).mpr (cov_cons.mpr (.inr c))) with d | d
      · have := cov_beyond hk c
        have := d.2
        cases z <;> simp at this <;> omega
      · exact d
/-- two lists have the same union just if they cover the same -/
theorem union_eq_iff {z : Bool} {l k : List Pr} : unionM z l = unionM z k ↔ ∀ m, cov z l m ↔ cov z k m := by
  constructor
  · intro h m
    rw [← cov_union z l m, h, cov_union z k m]
  · intro h
    exact one_uniq (union_one z l) (union_one z k) fun m => by rw [cov_union, cov_union, h m]
/-- the union is a list in one form that covers the same -/
theorem union_is {z : Bool} {l k : List Pr} (hk : oneF z k = true) (h : ∀ m, cov z l m ↔ cov z k m) : unionM z l = k :=
  one_uniq (union_one z l) hk fun m => by rw [cov_union, h m]
end Spk
namespace Spk
theorem covP_cut {z : Bool} {b c e : Int} (h1 : b ≤ c) (h2 : c ≤ e) (m : Int) : covP z (c, e) m ∨ covP z (b, c) m ↔ covP z (b, e) m := by
  unfold covP
  cases z <;> simp <;> omega
theorem covP_sub {z : Bool} {b c d e : Int} (h1 : b ≤ c) (h2 : d ≤ e) {m : Int} (h : covP z (c, d) m) : covP z (b, e) m := by
  unfold covP at *
  cases z <;> simp at h ⊢ <;> omega
theorem cov_mix {z : Bool} (us ws : List Pr) (n : Nat) (m : Int) : cov z (us.take n ++ ws.take 1 ++ us.drop n ++ ws.drop 1) m ↔ cov z us m ∨ cov z ws m := by
  have a : cov z us m ↔ cov z (us.take n) m ∨ cov z (us.drop n) m := by rw [← cov_app, List.take_append_drop]
  have b : cov z ws m ↔ cov z (ws.take 1) m ∨ cov z (ws.drop 1) m := by rw [← cov_app, List.take_append_drop]
  rw [cov_app, cov_app, cov_app, a, b]
  constructor
  · rintro (((h | h) | h) | h)
    · exact .inl (.inl h)
    · exact .inr (.inl h)
    · exact .inl (.inr h)
    · exact .inr (.inr h)
  · rintro ((h | h) | (h | h))
    · exact .inl (.inl (.inl h))
    · exact .inl (.inr h)
    · exact .inl (.inl (.inr h))
    · exact .inr h
theorem cov_take_more {z : Bool} {l : List Pr} {i : Nat} {p : Pr} (h : l[i]? = some p) (m : Int) : cov z (l.take (i + 1)) m ↔ cov z (l.take i) m ∨ covP z p m := by
  rw [List.take_add_one, h, cov_app]
  show _ ∨ cov z [p] m ↔ _
  rw [cov_cons]
  simp [cov_nil]
theorem cov_two {z : Bool} {p q : Pr} {m : Int} : cov z [p, q] m ↔ covP z p m ∨ covP z q m := by
  rw [cov_cons, cov_cons]; simp [cov_nil]
theorem cov_single {z : Bool} {p : Pr} {m : Int} : cov z [p] m ↔ covP z p m := by
  rw [cov_cons]; simp [cov_nil]
end Spk
namespace Spk
theorem gapd_apart : ∀ {l : List Pr}, gapd l = true → (∀ q ∈ l, q.1 ≤ q.2) → ∀ p ∈ l, ∀ q ∈ l, p = q ∨ p.2 < q.1 ∨ q.2 < p.1
  | [], _, _, p, hp, _, _ => by simp at hp
  | x :: r, h, hs, p, hp, q, hq => by
    have ht := gapd_lt h (fun y hy => hs y (by simp [hy]))
    rcases List.mem_cons.mp hp with e1 | hp
    · rcases List.mem_cons.mp hq with e2 | hq
      · exact .inl (e1.trans e2.symm)
      · exact .inr (.inl (e1 ▸ ht q hq))
    · rcases List.mem_cons.mp hq with e2 | hq
      · exact .inr (.inr (e2 ▸ ht p hp))
      · exact gapd_apart (gapd_tail h) (fun y hy => hs y (by simp [hy])) p hp q hq
def hasAll (z : Bool) (l : List Pr) (s : Pr) : Bool := (!z && decide (s.1 = s.2)) || l.any fun p => decide (p.1 ≤ s.1) && decide (s.2 ≤ p.2)
theorem hasAll_iff {z : Bool} {l : List Pr} {s : Pr} (h : oneF z l = true) (hs : s.1 ≤ s.2) : hasAll z l s = true ↔ ∀ m, covP z s m → cov z l m := by
  constructor
  · intro h1 m hm
    unfold hasAll at h1
    simp only [Bool.or_eq_true, Bool.and_eq_true, decide_eq_true_eq, List.any_eq_true, Bool.not_eq_true'] at h1
    rcases h1 with ⟨e1, e2⟩ | ⟨p, hp, e1, e2⟩
    · subst e1
      unfold covP at hm
      simp at hm
      omega
    · exact ⟨p, hp, covP_sub e1 e2 hm⟩
  · intro h1
    unfold hasAll
    simp only [Bool.or_eq_true, Bool.and_eq_true, decide_eq_true_eq, List.any_eq_true, Bool.not_eq_true']
    by_cases c : z = false ∧ s.1 = s.2
    · exact .inl c
    · refine .inr ?_
      have hx : covP z s (2 * s.1) := by
        unfold covP
        cases z <;> simp at c ⊢ <;> omega
      obtain ⟨p, hp, c1, c2⟩ := h1 _ hx
      have hg : gapd l = true := by unfold oneF at h; rw [Bool.and_eq_true] at h; exact h.2
      have hle := oneF_le h
      refine ⟨p, hp, by omega, Classical.byContradiction fun hn => ?_⟩
      have hp2 : s.1 ≤ p.2 := by cases z <;> simp at c2 <;> omega
      have hy : covP z s (2 * p.2 + 1) := ⟨by omega, by split <;> omega⟩
      obtain ⟨q, hq, d1, d2⟩ := h1 _ hy
      have := hle p hp
      rcases gapd_apart hg hle p hp q hq with e | e | e
      · subst e
        cases z <;> simp at d2
        omega
      · omega
      · cases z <;> simp at d2 <;> omega
theorem joinG_len : ∀ (l : List Pr) (c : Pr), (joinG c l).length ≤ l.length + 1
  | [], c => Nat.le_refl _
  | p :: r, c => by
    unfold joinG
    split
    · have := joinG_len r p; simp; omega
    · have := joinG_len r (c.1, if c.2 < p.2 then p.2 else c.2); simp; omega
theorem joinM_len (l : List Pr) : (joinM l).length ≤ l.length + 1 := by
  cases l with
  | nil => exact Nat.zero_le _
  | cons p r => exact joinG_len (p :: r) p
theorem union_len (z : Bool) (l : List Pr) : (unionM z l).length ≤ l.length + 1 := by
  unfold unionM
  refine Nat.le_trans (joinM_len _) (Nat.succ_le_succ ?_)
  rw [(srt_perm _).length_eq]
  exact List.length_filter_le ..
theorem union_union (z : Bool) (l : List Pr) : unionM z (unionM z l) = unionM z l := union_is (union_one z l) fun _ => Iff.rfl
/-- a property of the pairs that joining keeps -/
theorem union_keeps {z : Bool} {G : Pr → Prop} (ext : ∀ c p : Pr, G c → G p → c.2 < p.2 → G (c.1, p.2)) {l : List Pr} (h : ∀ p ∈ l, G p) : ∀ p ∈ unionM z l, G p := by
  have jg : ∀ (l : List Pr) (c : Pr), G c → (∀ p ∈ l, G p) → ∀ p ∈ joinG c l, G p := by
    intro l
    induction l with
    | nil => intro c hc _ p hp; rw [joinG] at hp; exact (List.mem_singleton.mp hp) ▸ hc
    | cons q r ih =>
      intro c hc hl p hp
      unfold joinG at hp
      split at hp
      · rcases List.mem_cons.mp hp with e | hp
        · exact e ▸ hc
        · exact ih q (hl q (by simp)) (fun x hx => hl x (by simp [hx])) p hp
      · refine ih _ ?_ (fun x hx => hl x (by simp [hx])) p hp
        split
        · exact ext c q hc (hl q (by simp)) (by assumption)
        · exact hc
  have hl : ∀ p ∈ srt (l.filter fun p => !emp z p), G p := fun p hp => h p (List.mem_filter.mp ((srt_perm _).mem_iff.mp hp)).1
  unfold unionM
  generalize srt (l.filter fun p => !emp z p) = k at hl
  cases k with
  | nil => intro p hp; simp [joinM] at hp
  | cons q r => exact jg (q :: r) q (hl q (by simp)) hl
theorem any_filter {l : List Pr} {f : Pr → Bool} : (!decide (l.filter f = [])) = l.any f := by
  induction l with
  | nil => rfl
  | cons p r ih =>
    cases e : f p with
    | true => rw [List.filter_cons_of_pos e, List.any_cons, e]; simp
    | false => rw [List.filter_cons_of_neg (by rw [e]; decide), List.any_cons, e, Bool.false_or, ih]
end Spk
namespace Spk
theorem oneF_cons_mem {z : Bool} {l : List Pr} (h : oneF z l = true) {p : Pr} (hp : p ∈ l) : emp z p = false := by
  unfold oneF at h
  rw [Bool.and_eq_true, List.all_eq_true] at h
  simpa using h.1 p hp
end Spk

namespace Spk
open PySem PySem.Spec PyProof.Rows L2
/-! Defs that are run where no repr is under way: the layer's rule of a def, with that known of the place. -/
structure FnG (P : Program) (w : World) (K : PySem.W.Frag) (mg : Str → Option Value) (bh : Heap) (k : Nat) (f : Addr) (fd : FuncData) (ps : List Str) (sp : Sp) : Prop where
  lenG : ∀ ws J R U, sp ws J R U → ws.length = ps.length
  runG : ∀ (B : Around) (ou : List Env) (t : Shared) (J : Hp) (ar : Args) (xs : List Value) (ws : List V) (R : VK) (U : XK), B.guards = some [] → Room k B →
    Env0 P w K mg bh B ou t J → BindsTo t fd ar (ps.zip xs) → Vals ws xs → sp ws J R U →
    codeAny (model P w) B (.call (.ref f) ar) (CR CX0 ou P w J t R U) t
section
variable {P : Program} {w : World} {K : PySem.W.Frag} {mg : Str → Option Value} {bh : Heap}
theorem fnG_of {k : Nat} {f : Addr} {nm qu : Str} {pr : Arguments} {bd : List Stmt} {sc : Scope} {v1 v2 v3 v4 v5 v6 v7 : Value} {o1 o2 : Option Addr}
    {sl : Array (Option Value)} {N ps : List Str} {sp : Sp}
    (lk : K.lookup f = some ⟨v7, o2, .func (PySem.W.fnOf nm qu pr bd sc v1 v2 v3 v4 o1 v5 v6), sl⟩)
    (hcd : PySem.W.codeIn K v5 qu = true) (S : FnScope N ps sc)
    (ln : ∀ ws J R U, sp ws J R U → ws.length = ps.length)
    (hb : ∀ (B : Around) (ou : List Env) (t : Shared) (J : Hp) (ws : List V) (R : VK) (U : XK), B.guards = some [] →
      Room k (B.deeper (envOfC qu sc t.heap.objs.size f v5)) → sp ws J R U →
      ∃ tr, PSs (cxOf CX0 P w K mg bh N qu sc f v5 B ou t J U) bd tr ∧ tr { nx := fun _ J' => R .non J', rt := R } (L2.start N ws) J) :
    FnG P w K mg bh (k + 1) f (PySem.W.fnOf nm qu pr bd sc v1 v2 v3 v4 o1 v5 v6) ps sp := by
  refine ⟨ln, fun B ou t J ar xs ws R U hgd rm e0 bi rl hsp => ?_⟩
  have hlen := ln _ _ _ _ hsp
  have kin : K.In t.heap := e0.mod.kin.keeps fun z y q => (e0.bs z y q).1
  have nol : t.heap.NoLimit := e0.mod.nolimit.keeps fun z y q => (e0.bs z y q).1
  refine codeAny_call_function rm.depth (kin _ _ lk) rfl S.co S.gen rfl (PySem.W.codeRec_of kin hcd) (bi _ _ _ _ ?_)
  refine wpAny_newFunctionEnv_cells S.kind ?_ fun en hen s1 ic => ?_
  · rintro ⟨n, v⟩ hy
    exact (S.par n (List.of_mem_zip hy).1).imp id fun q => ⟨q, PySem.W.cellsFrom_some _ _ _ (.inl q)⟩
  · subst hen
    refine ⟨nol.keeps ic.toInCall.keep, codeAny_func ?_⟩
    obtain ⟨tr, htr, hq⟩ := hb B ou t J ws R U hgd (rm.deeper _) hsp
    have iv : Inv (cxOf CX0 P w K mg bh N qu sc f v5 B ou t J U) [] (L2.start N ws) J s1 := inv_start S rm.hd e0 hlen rl ic
    refine wpAny_mono (htr.run [] s1 (L2.start N ws) J _ iv hq) (fun fl s2 hs => ?_) fun _ _ hs => hs
    cases fl with
    | ret u =>
      obtain ⟨v, _, J', I', rv, q⟩ := hs
      exact ⟨v, J', I'.os, I'.bare, I'.base, I'.hok, rv, q⟩
    | next =>
      obtain ⟨_, J', I', q⟩ := hs
      exact ⟨.non, J', I'.os, I'.bare, I'.base, I'.hok, rfl, q⟩
    | brk => exact hs.elim fun _ h => h.elim fun _ h => h.2.elim
    | cont => exact hs.elim fun _ h => h.elim fun _ h => h.2.elim
theorem Fun.okG {x qu : Str} {st : Stmt} {f : Addr} {fd : FuncData} {N ps : List Str} {k : Nat} {sp : Sp} (F : Fun K x qu st f fd) (S : FnScope N ps (defScope st))
    (ln : ∀ ws J R U, sp ws J R U → ws.length = ps.length)
    (hb : ∀ (cv : Value) (B : Around) (ou : List Env) (t : Shared) (J : Hp) (ws : List V) (R : VK) (U : XK), B.guards = some [] →
      Room k (B.deeper (envOfC qu (defScope st) t.heap.objs.size f cv)) → sp ws J R U →
      ∃ tr, PSs (cxOf CX0 P w K mg bh N qu (defScope st) f cv B ou t J U).nox (defBody st) tr ∧ tr { nx := fun _ J' => R .non J', rt := R } (L2.start N ws) J) :
    FnG P w K mg bh (k + 1) f fd ps sp := by
  obtain ⟨_, _, _, _, _, _, cv, _, _, rfl, lk, hcd⟩ := F.ex
  refine fnG_of lk hcd S ln fun B ou t J ws R U hgd rm hsp => ?_
  obtain ⟨tr, h, q⟩ := hb cv B ou t J ws R U hgd rm hsp
  exact ⟨tr, h.nox, q⟩
theorem FnG.of {k : Nat} {f : Addr} {fd : FuncData} {ps : List Str} {sp : Sp} (F : FnOk P w K mg bh CX0 k f fd ps sp) : FnG P w K mg bh k f fd ps sp :=
  ⟨F.len, fun B ou t J ar xs ws R U _ rm e0 bi rl h => F.run B ou t J ar xs ws R U rm e0 bi rl h⟩
end
section
variable {X : Cx} {k : Nat} {f : Addr} {fd : FuncData} {ps : List Str} {sp : Sp} {dvs : List V} {ds : List Value} {x : Str} {p pos : Pos} {e : Expr} {es : List Expr} {t : TA}
theorem run_fnG {pins : List (Addr × Obj)} {σ : L2.St} {J : Hp} {s : Shared} {R : VK} {xs : List Value} {ws : List V} (F : FnG X.prog X.w X.K X.mg X.base k f fd ps sp) (gd : X.A.guards = some []) (rm : Room k X.A)
    (bi : Binds X.K fd ps ds) (dd : Vals dvs ds) (I : Inv X pins σ J s) (rl : Vals ws xs) (h : sp (ws ++ dvs) J R E0) :
    wpAny (model X.prog X.w) X.A (call (.ref f) xs) (EP X pins σ R) X.xe s := by
  have r2 : Vals (ws ++ dvs) (xs ++ ds) := rl.append dd
  have hl : (xs ++ ds).length = ps.length := r2.length.symm.trans (F.lenG _ _ _ _ h)
  refine wpAny_call (codeAny_mono (F.runG X.A X.stack s J ⟨xs, []⟩ (xs ++ ds) (ws ++ dvs) R E0 gd rm I.env0 (bi s xs I.kIn hl) r2 h) fun r s' hq => ?_)
  match r, hq with
  | .ok (.ret u), hq => exact I.after hq
/-- f(e, ..), f a def that wants no repr under way -/
theorem pe_callG (F : FnG X.prog X.w X.K X.mg X.base k f fd ps sp) (gd : X.A.guards = some []) (rm : Room k X.A) (hg : Gl X x) (hm : X.mg x = some (.ref f)) (hk : PySem.W.keepIn X.K (.ref f) = true)
    (bi : Binds X.K fd ps ds) (dd : Vals dvs ds) (ha : PA X (e :: es) t) (hdb : (x == ("__debug__" : Str)) = false := by decide)
    (he : starEach (e :: es) X.env = (false, eval e X.env) :: starEach es X.env := by rfl) (hpl : (backTo pos (starEach es X.env)).any (·.1) = false := by rfl) :
    PE X (.Call (.Name x p) (e :: es) [] pos) (tCall sp dvs E0 t) := by
  refine ⟨fun pins s σ J R I h => wpAny_Call_Name_kw (ld_glob I hg hm ?_ hdb)⟩
  refine PySem.W.callWith_K (h₀ := X.base) I.ok.mod.kin hk (thn (ha.run pos pins s σ J _ I h) fun xs s1 hh => ?_) he hpl
  obtain ⟨ws, J1, I1, rl, q⟩ := hh
  exact ⟨I1.kIn, run_fnG F gd rm bi dd I1 rl q⟩
/-- repr of data: None, bools, ints, texts, lists and tuples of these, where no repr is under way -/
def rRepr (K : PySem.W.Frag) : List V → Hp → VK → Prop := fun xs J R => ∃ (x : V) (d : PyData), xs = [x] ∧ Dp K J x d ∧ d.showable = true ∧ d.hasDict = false ∧ d.depth ≤ 64 ∧ d.shown.length ≤ sizeLine ∧ R (.str d.shown) J
theorem call_reprD (gd : X.A.guards = some []) (rm : Room k X.A) : CallR X (.builtin "repr") (rRepr X.K) := by
  intro pins s σ J xs us R I r h
  obtain ⟨x, d, rfl, dp, hs, hnd, hdep, hz, q⟩ := h
  have hu : X.A.units + (d.depth + 1) < cLine := by have := rm.un; omega
  obtain ⟨u, rfl, ru⟩ := vals1 r
  obtain ⟨as, rd⟩ := Dp.reads I d x u dp ru
  have fin : ∀ h' tk, (∀ b o, s.heap.get? b = some o → h'.get? b = some o) → ∀ t, EP X pins σ R (.str d.shown t) { s with heap := h', toks := tk } := fun h' tk hk t =>
    ⟨.str d.shown, J, I.kept (t' := tk) hk, ⟨t, rfl⟩, q⟩
  cases dp with
  | non =>
    obtain rfl : u = Value.none := ru
    refine PySem.P.repr_of_none ?_
    have := fin s.heap (s.toks + 1) (fun _ _ z => z) s.toks
    simpa only [PyData.shown_none] using this
  | bl b =>
    obtain rfl : u = Value.bool b := ru
    refine PySem.P.repr_of_bool ?_
    have := fin s.heap (s.toks + 1) (fun _ _ z => z) s.toks
    simp only [PyData.shown_bool] at this
    cases b <;> exact this
  | int i =>
    obtain ⟨t, rfl⟩ := ru
    refine PySem.P.repr_of_int (by simpa [PyData.showable] using hs) ?_
    have := fin s.heap (s.toks + 1) (fun _ _ z => z) s.toks
    simpa only [PyData.shown_int] using this
  | str y =>
    obtain ⟨t, rfl⟩ := ru
    refine PySem.P.repr_of_str ?_ (by simpa only [PyData.shown_str] using hz)
    have := fin s.heap (s.toks + 1) (fun _ _ z => z) s.toks
    simpa only [PyData.shown_str] using this
  | @lst a ys ds sq da =>
    obtain rfl : u = Value.ref a := ru
    exact repr_of_reads' rd hs (fun z => absurd z (by rw [hnd]; decide)) gd hu (fun _ _ z => z) (fun h' t tk hk => fin h' tk hk t) hz
  | @tup a ys ds sq da =>
    obtain rfl : u = Value.ref a := ru
    exact repr_of_reads' rd hs (fun z => absurd z (by rw [hnd]; decide)) gd hu (fun _ _ z => z) (fun h' t tk hk => fin h' tk hk t) hz
end
end Spk

namespace Spk
open PySem PySem.Spec PyProof.Rows L2
section
variable {P : Program} {w : World} {K : PySem.W.Frag} {mg mb : Str → Option Value} {k : Nat} {fa a : Addr} {fd : FuncData} {x : Str} {sp : Sp} {t : Shared} {zs : List Value} {ns : List Int}
def Fin1 (t : Shared) (r : Result) (u : Shared) : Prop := r = .ok (.ret (.bool true)) ∧ OldK t.heap u.heap ∧ u.os = t.os ∧ AllBare u.gens
/-- the law's call, from a heap that tracks nothing but the script (or nothing) -/
theorem coreG {J : Hp} (KX : K.In t.heap) (hns : t.heap.Ns mainGlobals mg) (hb : t.heap.Ns builtinsNs mb) (hbb : ∀ y : Str, y ≠ "__name__" → mb y = bootBuiltins y) (hlim : t.heap.NoLimit) (hg : t.gens = #[])
    (ha : t.heap.get? a = some { cls := .type "list", data := .seq zs.toArray }) (rm : Room k callerA)
    (F : ∀ bh : Heap, K.In bh → bh.Ns mainGlobals mg → FnG P w K mg bh k fa fd [x] sp) (bi : ∀ (s : Shared) (u : Value), BindsTo s fd ⟨[u], []⟩ [(x, u)])
    (hO : Only J) (hok : HOk P w J t.heap) (hA : ∀ b, J b ≠ none → b = a) (hK : J a ≠ none → K.lookup a = none)
    (hsp : sp [.ref a] J (fun v _ => v = .bl true) E0) : codeAny (model P w) callerA (.call (.ref fa) ⟨[.ref a], []⟩) (Fin1 t) t := by
  have gone : ∀ b o es ep, t.heap.get? b = some o → o.data = .dict es ep → J b = none := by
    intro b o es ep e d
    cases q : J b with
    | none => rfl
    | some u =>
      obtain rfl : b = a := hA b (by rw [q]; exact fun z => nomatch z)
      obtain rfl : _ = o := Option.some.inj (ha.symm.trans e)
      exact nomatch (show Data.seq zs.toArray _ = Data.dict es ep from d)
  have ns' : ∀ b m, t.heap.Ns b m → (hidT t.heap J).Ns b m := by
    rintro b m ⟨o, es, ep, e, d, r⟩
    exact ⟨o, es, ep, hidT_get e (gone b o es ep e d), d, r⟩
  have kb : K.In (hidT t.heap J) := by
    intro b o e
    refine hidT_get (KX b o e) ?_
    cases q : J b with
    | none => rfl
    | some u =>
      obtain rfl : b = a := hA b (by rw [q]; exact fun z => nomatch z)
      exact absurd e (by rw [hK (by rw [q]; exact fun z => nomatch z)]; exact fun z => nomatch z)
  have md : Mod K mg (hidT t.heap J) := ⟨kb, ns' _ _ hns, ⟨mb, ns' _ _ hb, hbb⟩, hlim.imp fun mc h => ⟨ns' _ _ h.1, h.2⟩⟩
  have e0 : Env0 P w K mg (hidT t.heap J) callerA [] t J :=
    { frames := rfl, mod := md, bs := fun _ _ e => of_hidT e, bsz := Nat.le_of_eq (hidT_size _ _), funs := trivial, frf := (fun _ h => nomatch h), hok := hok, bare := .of_eq hg }
  refine codeAny_mono ((F _ kb (ns' _ _ hns)).runG callerA [] t J ⟨[.ref a], []⟩ [.ref a] [.ref a] _ E0 rfl rm e0 (bi t (.ref a)) (.cons rfl .nil) hsp) fun r u h => ?_
  match r, h with
  | .ok (.ret y), h =>
    obtain ⟨v, J', os, bare, un, hok', ry, q⟩ := h
    obtain rfl : v = .bl true := q
    obtain rfl : y = Value.bool true := ry
    refine ⟨rfl, OldK.of_keep fun b o e => ?_, os, bare⟩
    rcases hO b with z | ⟨ob, xs, z⟩
    · exact un.keep b o e z (fun h => nomatch h) (fun h => nomatch h)
    · have e1 := (hok b _ z).1
      have e2 := (hok' b _ (un.frzs b ob _ z)).1
      exact e2.trans (e1.symm.trans e)
theorem lawG (KX : K.In t.heap) (hns : t.heap.Ns mainGlobals mg) (hb : t.heap.Ns builtinsNs mb) (hbb : ∀ y : Str, y ≠ "__name__" → mb y = bootBuiltins y) (hlim : t.heap.NoLimit) (hg : t.gens = #[])
    (ha : t.heap.get? a = some { cls := .type "list", data := .seq zs.toArray }) (hi : IntsAre zs ns) (hl : ns.length ≤ sizeLine) (rm : Room k callerA)
    (F : ∀ bh : Heap, K.In bh → bh.Ns mainGlobals mg → FnG P w K mg bh k fa fd [x] sp) (bi : ∀ (s : Shared) (u : Value), BindsTo s fd ⟨[u], []⟩ [(x, u)])
    (hsp : ∀ J : Hp, Only J → SqL K J a (ns.map V.int) → sp [.ref a] J (fun v _ => v = .bl true) E0) :
    codeAny (model P w) callerA (.call (.ref fa) ⟨[.ref a], []⟩) (Fin1 t) t := by
  have rv : Vals (ns.map V.int) zs := vals_ints hi
  have ll : zs.length ≤ sizeLine := by rw [← rv.length, List.length_map]; exact hl
  cases hk : K.lookup a with
  | some o =>
    obtain rfl : _ = o := Option.some.inj (ha.symm.trans (KX a o hk))
    have sq : SqL K (fun _ => none) a (ns.map V.int) := Or.inr ⟨_, zs.toArray, _, hk, rfl, rfl, rfl, by simpa using ll, by simpa using rv⟩
    exact coreG KX hns hb hbb hlim hg ha rm F bi (fun _ => Or.inl rfl) (fun _ _ z => nomatch z) (fun _ z => absurd rfl z) (fun z => absurd rfl z) (hsp _ (fun _ => Or.inl rfl) sq)
  | none =>
    let J : Hp := fun b => if b = a then some (.frz { cls := .type "list", data := .seq zs.toArray } (.lst (ns.map V.int))) else none
    have ja : J a = some (.frz { cls := .type "list", data := .seq zs.toArray } (.lst (ns.map V.int))) := if_pos rfl
    have jn : ∀ b, b ≠ a → J b = none := fun b h => if_neg h
    have ho : Only J := fun b => (Classical.em (b = a)).elim (fun e => Or.inr ⟨_, _, e ▸ ja⟩) fun e => Or.inl (jn b e)
    refine coreG KX hns hb hbb hlim hg ha rm F bi ho (fun b u z => ?_) (fun b z => Classical.byContradiction fun e => z (jn b e)) (fun _ => hk) (hsp J ho (Or.inl (Or.inr ⟨_, ja⟩)))
    by_cases e : b = a
    · subst e
      obtain rfl := Option.some.inj (ja.symm.trans z)
      exact ⟨ha, by rw [List.length_map]; exact hl, zs, _, rv, ha⟩
    · exact absurd ((jn b e).symm.trans z) fun z => nomatch z
end
theorem walkG {l : PySem.W.OpenLaw} {n k : Nat} {q : Program} {lo : List Str} {XP : (Str → Option Value) → Heap → Prop} {YP : World → Heap → Prop} {d : DefRec} {K : Params → PySem.W.Frag} {sp : World → Sp} {x : Str}
    (hn : l.most = some n) (hn2 : n ≤ sizeLine) (hdf : d.params.defaults = []) (rm : Room k callerA) (hY : ∀ (w : World) (h : Heap), YP w h → (K w.params).In h)
    (F : ∀ (w : World) (mg : Str → Option Value) (fa : Addr) (h : Heap), (K w.params).In h → h.Ns mainGlobals mg → mg d.name = some (.ref fa) →
      ∃ fd : FuncData, (∀ (s : Shared) (u : Value), BindsTo s fd ⟨[u], []⟩ [(x, u)]) ∧
        ∀ bh : Heap, (K w.params).In bh → bh.Ns mainGlobals mg → FnG l.prog w (K w.params) mg bh k fa fd [x] (sp w))
    (hsp : ∀ (w : World) (J : Hp) (a : Addr) (ns : List Int), ns.length ≤ n → Only J → SqL (K w.params) J a (ns.map V.int) → sp w [.ref a] J (fun v _ => v = .bl true) E0) :
    PySem.W.WalkO q lo XP YP l.row.toRowW d [] (fun f vs => PySem.call f vs) := by
  refine Att.attach_call hn hdf fun w s₀ t mg mb fa o pm cd doc a zs ns G Y ho hd hcd hmg hobj hints hlen hg => ?_
  obtain ⟨fd, bi, hF⟩ := F w mg fa _ (hY w _ Y) G.T.g hmg
  exact lawG (hY w _ Y) G.T.g G.T.b G.T.builtins G.T.nolimit hg hobj hints (Nat.le_trans hlen hn2) rm hF bi fun J hO hS => hsp w J a ns hlen hO hS
end Spk

namespace Spk
open PySem PySem.Spec PyProof.Rows L2
open AutoSeq1 (wpAny_loadPart')
theorem enumT_new (t : Addr) (its : Array Value) (n : Nat) (dct : Option Addr) (sl : Array (Option Value)) :
    Meets (Builtin.«enumerate.__new__» ⟨[.type "enumerate", .ref t], []⟩) (fun _ R s => s.heap.get? t = some { cls := .type "tuple", dict := dct, data := .seq its n, slots := sl } ∧
      R (.ok (.ret (.ref (s.heap.push { cls := .type "tuple_iterator", data := .fields #[.ref t, .int 0 0] }).objs.size)))
        { s with heap := (s.heap.push { cls := .type "tuple_iterator", data := .fields #[.ref t, .int 0 0] }).push { cls := .type "enumerate", data := .fields #[.none, .bool false, .ref s.heap.objs.size, rawInt 0, .none, .none] } }) :=
  .of_wp fun prog w A R s h => by
    obtain ⟨hp, g, d, tk, os⟩ := s; obtain ⟨ht, h⟩ := h
    have hsub := sub_enumerate
    have hT : Heap.IsTuple (Shared.heap ⟨hp, g, d, tk, os⟩) t its := ⟨_, ht, rfl, n, rfl⟩
    wp_walk using wpAny_loadPart' ht
    refine wpAny_stack_any fun st => wpAny_pure ?_
    split
    · rename_i c _ _ _ _ _
      cases (c == Value.type "enumerate") <;> (wp_walk using wpAny_loadPart' ht, wpAny_pyIter_tuple hT; exact ⟨_, rfl, h⟩)
    · wp_walk using wpAny_loadPart' ht, wpAny_pyIter_tuple hT
      exact ⟨_, rfl, h⟩
theorem mem2 {α : Type} {b x y : α} (h : b ∈ [x, y]) : b = x ∨ b = y := by simpa using h
section
variable {prog : Program} {w : World} {A : Around} {E : Value → Shared → Prop} {s : Shared}
theorem enumT_call {t : Addr} {its : Array Value} {Q : Value → Shared → Prop} (hT : s.heap.IsTuple t its)
    (h : ∀ g, IsEnum g (s.heap.objs.size + 1) s.heap.objs.size 0 .none → g.IsTupleIter s.heap.objs.size t 0 → g.objs.size = s.heap.objs.size + 2 →
      (∀ b o, s.heap.get? b = some o → g.get? b = some o) → Q (.ref (s.heap.objs.size + 1)) { s with heap := g }) :
    wpAny (model prog w) A (call (.type "enumerate") [.ref t]) Q E s := by
  obtain ⟨⟨c, dct, dt, sl⟩, ht, hc, n, hd⟩ := hT
  obtain rfl : c = .type "tuple" := hc
  obtain rfl : dt = .seq its n := hd
  refine callType_new F.called_enumerate (by decide) (F.typeCall_enumerate_1 _) (F.newCall_enumerate_1 _) (fun ob => F.args_object_init_2 ob _) F.entry_enumerate_new (enumT_new t its n dct sl) ⟨ht, ?_⟩
  have hz : (s.heap.push { cls := .type "tuple_iterator", data := .fields #[.ref t, .int 0 0] }).objs.size = s.heap.objs.size + 1 := Heap.size_push ..
  show _ ∧ _
  rw [hz]
  have he : IsEnum ((s.heap.push { cls := .type "tuple_iterator", data := .fields #[.ref t, .int 0 0] }).push
      { cls := .type "enumerate", data := .fields #[.none, .bool false, .ref s.heap.objs.size, rawInt 0, .none, .none] }) (s.heap.objs.size + 1) s.heap.objs.size 0 .none := by
    have q := Heap.get?_push_size (s.heap.push { cls := .type "tuple_iterator", data := .fields #[.ref t, .int 0 0] })
      (o := { cls := .type "enumerate", data := .fields #[.none, .bool false, .ref s.heap.objs.size, rawInt 0, .none, .none] }) rfl
    rw [hz] at q; exact q
  exact ⟨⟨_, he, rfl⟩, h _ he ⟨_, Heap.get?_push_of_some _ (Heap.get?_push_size _ rfl), rfl, rfl⟩ (by rw [Heap.size_push, hz]) fun b o q => Heap.get?_push_of_some _ (Heap.get?_push_of_some _ q)⟩
end
/-- enumerate(tuple): each item in a new pair -/
def ItE (K : PySem.W.Frag) (a : Addr) : It where
  go := fun i H => ∃ (xs : List V) (x : V), SqT K H a xs ∧ xs[i]? = some x
  yld := fun i H v H' => ∃ T x, v = .ref T ∧ H T = none ∧ H' = upd H T (.tup [.int (i : Nat), x]) ∧ ∀ xs, SqT K H a xs → xs[i]? = some x
  stop := fun i H => ∃ xs : List V, SqT K H a xs ∧ xs.length ≤ i
theorem turnE {P : Program} {w : World} {K : PySem.W.Frag} {elts : List Expr} {kk : Nat} {tpos : Pos} (a e it : Addr) (hai : a ≠ it) (hae : e ≠ a) :
    Turn P w K (.Tuple elts kk tpos) (ItE K a) [e, it] e (fun i h => (∃ old, IsEnum h e it ((i : Nat) : Int) old) ∧ h.IsTupleIter it a i ∧ e ≠ it) where
  mem := List.mem_cons_self
  obj := by
    rintro i h ⟨⟨old, he⟩, ⟨o, ho, hc, hd⟩, _⟩ b hb
    rcases mem2 hb with rfl | rfl
    · exact ⟨_, he, fun v q => nomatch q⟩
    · exact ⟨o, ho, fun v q => by rw [hd] at q; cases q⟩
  keep := by
    rintro i h h' ⟨⟨old, he⟩, hi, hne⟩ k
    exact ⟨⟨old, k e (by simp) _ he⟩, hi.at fun o q => k it (by simp) o q, hne⟩
  item := by
    intro X hP hw hK hc i pins s σ H E I hf st hg
    subst hP hw hK
    obtain ⟨⟨old, he⟩, hit, hne⟩ := st
    obtain ⟨xs, x, hq, hx⟩ := hg
    obtain ⟨its, rv, p, hz⟩ := I.tuple hq
    obtain ⟨u, hu, ru⟩ := rv.get hx
    have hu' : its.toArray[i]? = some u := by simpa using hu
    have hlt : i < its.toArray.size := by
      obtain ⟨h1, _⟩ := Array.getElem?_eq_some_iff.mp hu'
      exact h1
    have hT : s.heap.IsTuple a its.toArray := p
    have hel : e < s.heap.objs.size := Heap.lt_size he
    have hil : it < s.heap.objs.size := by obtain ⟨_, q, _⟩ := hit; exact Heap.lt_size q
    have D := Draws.tuple (prog := X.prog) (w := X.w) (A := X.A.in1) (I.ok.hd hc) it a hai its.toArray
    refine wpAny_pyNext_enum_itemD D he ⟨hit, hT⟩ hlt hne (fun hm => ?_) fun y g tk hy ho hst hTp hsz hk => ?_
    · rcases mem2 hm with z | z
      · exact hne z
      · exact hae z
    · obtain rfl : u = y := Option.some.inj (hu'.symm.trans hy)
      refine ⟨_, rfl, wpAny_letOwnedTupleGo_enum (s := { s with heap := g, toks := tk + 1 }) ho fun g2 he2 sb => ?_⟩
      have hT2 : g2.get? s.heap.objs.size = some { cls := .type "tuple", data := .seq #[.int i tk, u] } := (sb.2 _ (Nat.ne_of_gt hel)).trans hTp
      have new : ObjOk X.prog X.w (upd H s.heap.objs.size (.tup [.int (i : Nat), x])) g2 s.heap.objs.size (.tup [.int (i : Nat), x]) :=
        ⟨by show 2 ≤ sizeLine; decide, [.int i tk, u], .cons ⟨_, rfl⟩ (.cons ru .nil), ⟨_, hT2, rfl, _, rfl⟩⟩
      have I1 : Inv X pins σ (upd H s.heap.objs.size (.tup [.int (i : Nat), x])) { s with heap := g2, toks := tk + 1 } := by
        refine I.turnedNew (ch := [e, it]) (fun b ob hb q => ?_) hf (Nat.le_refl _) new
        have n1 : b ≠ e := fun z => hb (by simp [z])
        have n2 : b ≠ it := fun z => hb (by simp [z])
        exact (sb.2 b n1).trans (hk b ob n1 n2 q)
      refine ⟨.ref s.heap.objs.size, _, I1, rfl, ⟨_, x, rfl, I.hok.fresh (Nat.le_refl _), rfl, fun ys hy => by rw [I.tuple_inj hy hq]; exact hx⟩, ⟨⟨u, ?_⟩, hst.1.at fun o q => (sb.2 it (Ne.symm hne)).trans q, hne⟩, fun b hb => ?_⟩
      · have e1 : ((i + 1 : Nat) : Int) = (i : Int) + 1 := by omega
        rw [e1]; exact he2
      · have hlb : b < s.heap.objs.size := by rcases mem2 hb with rfl | rfl <;> assumption
        exact (upd_ne (Nat.ne_of_lt hlb)).trans (hf b hb).1
  done := by
    intro X hP hw hK hc i pins s σ H E I hf st hg
    subst hP hw hK
    obtain ⟨⟨old, he⟩, hit, hne⟩ := st
    obtain ⟨xs, hq, hx⟩ := hg
    obtain ⟨its, rv, p, hz⟩ := I.tuple hq
    obtain ⟨f0, f1, f2, f3, f4, f5⟩ := hf it (by simp)
    have hT : s.heap.IsTuple a its.toArray := p
    have hl := rv.length
    have hT2 : its.toArray[i]? = none := by simp; omega
    refine (show wpAny (model X.prog X.w) X.A (pyNext (.ref e)) _ E s from ?_)
    have hTy : s.TypeIs (.ref e) "enumerate" := ⟨_, he, rfl⟩
    unfold pyNext
    refine wpAny_bind (wpAny_attempt (wpAny_callSpecial?_slot (name := Str.ofString "__next__") hTy F.slot_enumerate_next
      (wpAny_call_entry F.slot_enumerate_next hTy F.entry_enumerate_next ?_ (F.args_enumerate_next_1 _))))
    show wpAny _ _ (field (.ref e) 2 >>= _) _ _ _
    refine wpAny_bind (wpAny_field he rfl (x := .ref it) rfl ?_)
    refine wpAny_bind (wpAny_nextOf_tuple_end (I.ok.hd hc) hit hT hT2 fun g x eb hx' => ?_)
    obtain ⟨o, ho, hcl⟩ := hx'
    refine wpAny_bind (wpAny_isInstance (T := "StopIteration") (b := true) ⟨o, ho, hcl⟩ isSubtype_stop ?_)
    exact wpAny_pure ⟨rfl, I.turned (t' := s.toks) (fun b o hb q => eb b o hb q) f0 f1 f3 f4 f5⟩
  self := by
    rintro A i s Q E ⟨⟨_, he⟩, _⟩ h
    exact wpAny_pyIter_enum he h
theorem walkE {K : PySem.W.Frag} {a : Addr} {xs : List V} : Walk (ItE K a) xs.length (fun H => SqT K H a xs) (YPair (fun i => some (.int (i : Nat))) (fun i => xs[i]?)) where
  goes := fun i _ hi q => ⟨xs, xs[i], q, by simp [hi]⟩
  stops := fun _ q => ⟨xs, q, Nat.le_refl _⟩
  yields := by
    rintro i H v H' _ q ⟨T, x, h1, h2, h3, h4⟩
    exact ⟨T, .int (i : Nat), x, h1, h2, h3, rfl, h4 xs q⟩
/-- a list or a tuple -/
def Sq (K : PySem.W.Frag) (H : Hp) (a : Addr) (xs : List V) : Prop := SqL K H a xs ∨ SqT K H a xs
/-- what was read at a is still to be read there -/
def SqK (K : PySem.W.Frag) (H H' : Hp) (a : Addr) (xs : List V) : Prop := (SqL K H a xs → SqL K H' a xs) ∧ (SqT K H a xs → SqT K H' a xs)
/-- enumerate(x), x a list or a tuple -/
def iEn (K : PySem.W.Frag) (ta : TA) : TI := fun σ H R => ta σ H fun vs H1 => ∃ a xs, vs = [.ref a] ∧ Sq K H1 a xs ∧
  ∀ J, Walk J xs.length (fun H => SqK K H1 H a xs) (YPair (fun i => some (.int (i : Nat))) (fun i => xs[i]?)) → R J H1
/-- x, a list or a tuple -/
def iSq (K : PySem.W.Frag) (tl : TE) : TI := fun σ H R => tl σ H fun x H1 => ∃ a xs, x = .ref a ∧ Sq K H1 a xs ∧
  ∀ J, Walk J xs.length (fun H => SqK K H1 H a xs) (YAt xs) → R J H1
section
variable {X : Cx}
theorem pi_en {e : Expr} {ta : TA} {p pos tpos : Pos} {elts : List Expr} {kk : Nat} (hg : Gl X "enumerate") (hm : X.mg "enumerate" = none) (ha : PA X [e] ta) (hs : starEach [e] X.env = [(false, eval e X.env)] := by rfl) :
    PI X (.Tuple elts kk tpos) (.Call (.Name "enumerate" p) [e] [] pos) (iEn X.K ta) := by
  refine ⟨fun pins s σ H R I h => Call_ (ld_blt I hg hm boot_enumerate (PyProof.Rows.callWith_type1 (thn (ha.run pos pins s σ H _ I h) fun us s1 hh => ?_) hs rfl))⟩
  obtain ⟨vs, H1, I1, r1, a, xs, rfl, hq, q⟩ := hh
  obtain ⟨u, rfl, ru⟩ := vals1 r1
  obtain rfl : u = Value.ref a := ru
  have fp : ∀ b ∈ [s1.heap.objs.size + 1, s1.heap.objs.size], FpOk X pins H1 b := fun b hb => by
    have hle : s1.heap.objs.size ≤ b := by rcases mem2 hb with rfl | rfl <;> omega
    exact I1.fpOk hle (I1.hok.fresh hle)
  rcases hq with hq | hq
  · obtain ⟨its, rv, p', hz⟩ := I1.list hq
    refine call_enumerate_list p'.isList fun g he hit hsz hk => wpAny_pyIter_enum he ?_
    exact ⟨s1.heap.objs.size + 1, [s1.heap.objs.size + 1, s1.heap.objs.size], _, _, H1, rfl, I1.kept (t' := s1.toks) hk, turn_enum a _ _, ⟨⟨.none, he⟩, hit, Nat.succ_ne_self _⟩, fp, q _ (walk_enum.mono (fun _ z => z.1 hq) fun _ _ _ _ _ _ y => y)⟩
  · obtain ⟨its, rv, p', hz⟩ := I1.tuple hq
    have hT : s1.heap.IsTuple a its.toArray := p'
    have hlt : a < s1.heap.objs.size := by obtain ⟨_, z, _⟩ := hT; exact Heap.lt_size z
    refine enumT_call hT fun g he hit hsz hk => wpAny_pyIter_enum he ?_
    exact ⟨s1.heap.objs.size + 1, [s1.heap.objs.size + 1, s1.heap.objs.size], _, _, H1, rfl, I1.kept (t' := s1.toks) hk, turnE a _ _ (Nat.ne_of_lt hlt) (Nat.ne_of_gt (Nat.lt_succ_of_lt hlt)), ⟨⟨.none, he⟩, hit, Nat.succ_ne_self _⟩, fp, q _ (walkE.mono (fun _ z => z.2 hq) fun _ _ _ _ _ _ y => y)⟩
theorem pi_sq {tg l : Expr} {tl : TE} (hl : PE X l tl) : PI X tg l (iSq X.K tl) := by
  refine ⟨fun pins s σ H R I h => thn (hl.run pins s σ H _ I h) fun v s1 hh => ?_⟩
  obtain ⟨x, H1, I1, r1, a, xs, rfl, hq, q⟩ := hh
  obtain rfl : v = Value.ref a := r1
  have fp : ∀ b ∈ [s1.heap.objs.size], FpOk X pins H1 b := fun b hb => by
    obtain rfl : b = s1.heap.objs.size := by simpa using hb
    exact I1.fpOk (Nat.le_refl _) (I1.hok.fresh (Nat.le_refl _))
  rcases hq with hq | hq
  · obtain ⟨its, rv, p, hz⟩ := I1.list hq
    exact wpAny_pyIter_list p.isList ⟨s1.heap.objs.size, [s1.heap.objs.size], _, _, H1, rfl, I1.kept (t' := s1.toks) fun _ _ z => Heap.get?_push_of_some _ z, turn_list a _, ⟨_, Heap.get?_push_size _ rfl, rfl, rfl⟩, fp, q _ (walk_list.mono (fun _ z => z.1 hq) fun _ _ _ _ _ _ y => y)⟩
  · obtain ⟨its, rv, p, hz⟩ := I1.tuple hq
    have hT : s1.heap.IsTuple a its.toArray := p
    exact wpAny_pyIter_tuple hT ⟨s1.heap.objs.size, [s1.heap.objs.size], _, _, H1, rfl, I1.kept (t' := s1.toks) fun _ _ z => Heap.get?_push_of_some _ z, turn_tuple a _, ⟨_, Heap.get?_push_size _ rfl, rfl, rfl⟩, fp, q _ (walk_tup.mono (fun _ z => z.2 hq) fun _ _ _ _ _ _ y => y)⟩
end
end Spk

namespace Spk
open PySem PySem.Spec PyProof.Rows L2
/-! ### a def that may be called -/
structure Rdy (P : Program) (w : World) (K : PySem.W.Frag) (mg : Str → Option Value) (bh : Heap) (x : Str) (k : Nat) (ps : List Str) (sp : Sp) (f : Addr) (fd : FuncData) : Prop where
  ok : FnOk P w K mg bh CX0 k f fd ps sp
  gl : mg x = some (.ref f)
  kp : PySem.W.keepIn K (.ref f) = true
  bd : Binds K fd ps []
/-- a def with defaults -/
structure RdyD (P : Program) (w : World) (K : PySem.W.Frag) (mg : Str → Option Value) (bh : Heap) (x : Str) (k : Nat) (ps : List Str) (dvs : List V) (sp : Sp) (f : Addr) (fd : FuncData) : Prop where
  ok : FnOk P w K mg bh CX0 k f fd ps sp
  gl : mg x = some (.ref f)
  kp : PySem.W.keepIn K (.ref f) = true
  bd : Binds K fd ps []
  bd1 : ∃ ds, Vals dvs ds ∧ Binds K fd ps ds
section
variable {X : Cx} {x : Str} {k j : Nat} {ps : List Str} {dvs : List V} {sp : Sp} {f : Addr} {fd : FuncData} {p pos : Pos} {e : Expr} {es : List Expr} {t : TA}
theorem pe_rdy (R : Rdy X.prog X.w X.K X.mg X.base x k ps sp f fd) (rm : Room j X.A) (hj : k ≤ j) (hg : Gl X x) (ha : PA X (e :: es) t) (hdb : (x == ("__debug__" : Str)) = false := by decide)
    (he : starEach (e :: es) X.env = (false, eval e X.env) :: starEach es X.env := by rfl) (hpl : (backTo pos (starEach es X.env)).any (·.1) = false := by rfl) :
    PE X (.Call (.Name x p) (e :: es) [] pos) (tCall sp [] E0 t) := pe_call R.ok (rm.mono hj) hg R.gl R.kp R.bd .nil pass0 ha hdb he hpl
theorem pe_rdyD (R : RdyD X.prog X.w X.K X.mg X.base x k ps dvs sp f fd) (rm : Room j X.A) (hj : k ≤ j) (hg : Gl X x) (ha : PA X (e :: es) t) (hdb : (x == ("__debug__" : Str)) = false := by decide)
    (he : starEach (e :: es) X.env = (false, eval e X.env) :: starEach es X.env := by rfl) (hpl : (backTo pos (starEach es X.env)).any (·.1) = false := by rfl) :
    PE X (.Call (.Name x p) (e :: es) [] pos) (tCall sp [] E0 t) := pe_call R.ok (rm.mono hj) hg R.gl R.kp R.bd .nil pass0 ha hdb he hpl
/-- the last argument left out -/
theorem pe_rdyD1 (R : RdyD X.prog X.w X.K X.mg X.base x k ps dvs sp f fd) (rm : Room j X.A) (hj : k ≤ j) (hg : Gl X x) (ha : PA X (e :: es) t) (hdb : (x == ("__debug__" : Str)) = false := by decide)
    (he : starEach (e :: es) X.env = (false, eval e X.env) :: starEach es X.env := by rfl) (hpl : (backTo pos (starEach es X.env)).any (·.1) = false := by rfl) :
    PE X (.Call (.Name x p) (e :: es) [] pos) (tCall sp dvs E0 t) := by
  obtain ⟨ds, hv, bd⟩ := R.bd1
  exact pe_call R.ok (rm.mono hj) hg R.gl R.kp bd hv pass0 ha hdb he hpl
/-! ### a word between a statement and what follows -/
def tMid (t u : TS) : TS := fun D σ H => ∃ M : L2.St → Hp → Prop, t { D with nx := M } σ H ∧ ∀ τ J, M τ J → u D τ J
theorem pss_mid {st : Stmt} {sts : List Stmt} {t u : TS} (a : PS X st t) (b : PSs X sts u) : PSs X (st :: sts) (tMid t u) := by
  refine ⟨fun pins s σ H D I h => h.elim fun M h => ?_⟩
  refine wpAny_execs_cons (thn (a.run pins s σ H { D with nx := M } I h.1) fun fl s1 q => ?_)
  match fl, q with
  | .next, q =>
    obtain ⟨τ, J, I', q⟩ := q
    exact b.run pins s1 τ J D I' (h.2 τ J q)
  | .ret _, q => exact q
  | .brk, q => exact q
  | .cont, q => exact q
/-- an item of a tuple, the written part named -/
theorem ix_tupK {K : PySem.W.Frag} (h : X.K = K := by rfl) : IxR X (rIxT K) := h ▸ ix_tup
theorem ix_listK {K : PySem.W.Frag} (h : X.K = K := by rfl) : IxR X (rIxL K) := h ▸ ix_list
/-! ### constants of the module, of a class -/
theorem pe_globI {i : Int} (h : ∃ t, X.mg x = some (.int i t)) (hg : Gl X x) (hd : (x == ("__debug__" : Str)) = false := by decide) : PE X (.Name x pos) (tC (.int i)) := by
  obtain ⟨t, h⟩ := h
  exact pe_glob hg h ⟨t, rfl⟩ hd
/-- the class Ends, as the top has left it -/
structure EndsT (K : PySem.W.Frag) (mg : Str → Option Value) : Prop where
  ex : ∃ (C : Addr) (mc u1 u2 : Value), mg "Ends" = some (.ref C) ∧ ClX.CRead K C mc ∧ ClX.CVal K C mc "HALF" (.str "half") u1 ∧ ClX.CVal K C mc "SHUT" (.str "shut") u2
theorem pe_half (h : EndsT X.K X.mg) (hg : Gl X "Ends") (hb : attributeBase (.Name "Ends" p) "HALF" X.env (eval (.Name "Ends" p) X.env) = eval (.Name "Ends" p) X.env := by rfl) :
    PE X (.Attribute (.Name "Ends" p) "HALF" pos) (tC (.str "half")) := by
  obtain ⟨C, mc, u1, u2, g, r, a, b⟩ := h.ex
  have q := ClX.pe_cval (X := X) (f := "HALF") (pos := pos) (pe_glob (v := .ref C) (pos := p) hg g rfl) hb
  exact ⟨fun pins s σ H R I z => q.run pins s σ H R I ⟨C, mc, _, u1, rfl, r, a, z⟩⟩
theorem pe_shut (h : EndsT X.K X.mg) (hg : Gl X "Ends") (hb : attributeBase (.Name "Ends" p) "SHUT" X.env (eval (.Name "Ends" p) X.env) = eval (.Name "Ends" p) X.env := by rfl) :
    PE X (.Attribute (.Name "Ends" p) "SHUT" pos) (tC (.str "shut")) := by
  obtain ⟨C, mc, u1, u2, g, r, a, b⟩ := h.ex
  have q := ClX.pe_cval (X := X) (f := "SHUT") (pos := pos) (pe_glob (v := .ref C) (pos := p) hg g rfl) hb
  exact ⟨fun pins s σ H R I z => q.run pins s σ H R I ⟨C, mc, _, u2, rfl, r, b, z⟩⟩
end

/-! ### defs with defaults, calls by keywords alone -/
section
variable {P : Program} {w : World} {K : PySem.W.Frag} {mg : Str → Option Value} {bh : Heap} {x qu : Str} {st : Stmt} {dvs : List V} {f : Addr} {fd : FuncData} {N ps : List Str} {k : Nat} {sp : Sp}
theorem okD (F : FunD K x qu (defArgs st) (defBody st) (defScope st) dvs [] f fd) (S : FnScope N ps (defScope st)) (ln : ∀ vs H Q E, sp vs H Q E → vs.length = ps.length)
    (hb : ∀ (cv : Value) (B : Around) (ou : List Env) (t : Shared) (J : Hp) (ws : List V) (R : VK) (U : XK), Room k (B.deeper (envOfC qu (defScope st) t.heap.objs.size f cv)) → sp ws J R U →
      ∃ tr, PSs (cxOf CX0 P w K mg bh N qu (defScope st) f cv B ou t J U).nox (defBody st) tr ∧ tr { nx := fun _ J' => R .non J', rt := R } (L2.start N ws) J) :
    FnOk P w K mg bh CX0 (k + 1) f fd ps sp := F.ok S ln fun cv B ou t J ws R U rm h => by
  obtain ⟨tr, q, z⟩ := hb cv B ou t J ws R U rm h
  exact ⟨tr, q.nox, z⟩
theorem bindsFull (F : FunD K x qu (defArgs st) (defBody st) (defScope st) dvs [] f fd) (hd : dvs ≠ [])
    (h : ∀ (T : Addr) (kV dc pm : Value) (an : Option Addr) (cv ct : Value) (us its : List Value), us.length = ps.length → its.length = dvs.length →
      ∃ kk, bindArgs (PySem.W.fnOf x qu (defArgs st) (defBody st) (defScope st) (.ref T) kV dc pm an cv ct) ⟨us, []⟩ = seqItems? (.ref T) >>= kk ∧ kk (some its.toArray) = pure (ps.zip us)) : Binds K fd ps [] := by
  obtain ⟨ds, hv, bd⟩ := FunD.binds1 (ps := ps) F ps.length dvs.length hd (by omega) fun T kV dc pm an cv ct us its h1 h2 => by
    obtain ⟨kk, e1, e2⟩ := h T kV dc pm an cv ct us its h1 h2
    have : its.drop dvs.length = [] := List.drop_eq_nil_of_le (by omega)
    rw [this, List.append_nil]
    exact ⟨kk, e1, e2⟩
  have e : dvs.drop dvs.length = [] := List.drop_eq_nil_of_le (Nat.le_refl _)
  rw [e] at hv
  cases hv
  exact bd
theorem kwAll (F : FunD K x qu (defArgs st) (defBody st) (defScope st) dvs [] f fd) (ks : List Str) (g : {α : Type} → List α → List α) (hd : dvs ≠ []) (hrel : ∀ {zs : List V} {ws : List Value}, Vals zs ws → Vals (g zs) (g ws))
    (h : ∀ (T : Addr) (kV dc pm : Value) (an : Option Addr) (cv ct : Value) (its ws : List Value), its.length = dvs.length → ws.length = ks.length →
      ∃ kk, bindArgs (PySem.W.fnOf x qu (defArgs st) (defBody st) (defScope st) (.ref T) kV dc pm an cv ct) ⟨[], ks.zip ws⟩ = seqItems? (.ref T) >>= kk ∧ kk (some its.toArray) = pure (ps.zip (g ws))) :
    KBn K fd ps 0 ks (fun _ ws => g ws) (fun _ zs => g zs) := by
  obtain ⟨oc, od, dV, kV, dc, pm, an, cv, ct, sl, rfl, lk, hcd, hD, hK⟩ := F.ex
  rcases hD with ⟨e, _⟩ | ⟨_, T, o, its, m, rfl, lT, oT, rT⟩
  · exact absurd e hd
  · refine ⟨fun s us ws X l1 l2 => ?_, fun _ r2 => hrel r2⟩
    obtain rfl : us = [] := List.length_eq_zero_iff.mp l1
    obtain ⟨kk, e1, e2⟩ := h T kV dc pm an cv ct its ws rT.length.symm l2
    refine BindsTo.of_looks fun M => ?_
    rw [e1]
    exact looks_items X lT oT (.of_pure e2)
end
section
variable {X : Cx} {k j : Nat} {f : Addr} {fd : FuncData} {ps ks : List Str} {sp : Sp} {x : Str} {p pos : Pos} {kws : List Keyword} {tk : TA} {g : List Value → List Value → List Value} {gV : List V → List V → List V}
/-- f(k = v, ..) without a positional argument -/
theorem pe_kw0 (F : FnOk X.prog X.w X.K X.mg X.base CX0 k f fd ps sp) (rm : Room j X.A) (hj : k ≤ j) (hg : Gl X x) (hm : X.mg x = some (.ref f)) (hk : PySem.W.keepIn X.K (.ref f) = true) (hb : KBn X.K fd ps 0 ks g gV) (hkw : PK X kws tk)
    (hall : (backToKw pos (keywordEach kws X.env)).all (·.1.isSome) = true := by rfl) (hks : (backToKw pos (keywordEach kws X.env)).filterMap (·.1) = ks := by rfl) (hdb : (x == ("__debug__" : Str)) = false := by decide)
    (hpl : ((backTo pos (starEach [] X.env)).any (·.1) || (backToKw pos (keywordEach kws X.env)).any (·.1.isNone)) = false := by rfl) :
    PE X (.Call (.Name x p) [] kws pos) (tCallN 0 ks.length sp gV E0 tNil tk) := by
  refine ⟨fun pins s σ H Q I h => wpAny_Call_Name_kw (ld_glob I hg hm ?_ hdb)⟩
  refine PySem.W.callWith_KW0 (h₀ := X.base) I.ok.mod.kin hk hall (thn (hkw.run pos pins s σ H _ I h) fun ws s2 hh => ?_) hpl
  obtain ⟨zs, H2, I2, rz, l1, l2, q2⟩ := hh
  refine ⟨I2.kIn, ?_⟩
  rw [hks]
  exact run_fnN (us := []) (vs := []) F (rm.mono hj) hb pass0 I2 .nil rz rfl l2 q2
end
/-! ### heaps -/
theorem SqL.hp {K : PySem.W.Frag} {H : Hp} {a : Addr} {xs : List V} (h : H a = some (.lst xs)) : SqL K H a xs := .inl (.inl h)
theorem SqT.hp {K : PySem.W.Frag} {H : Hp} {a : Addr} {xs : List V} (h : H a = some (.tup xs)) : SqT K H a xs := .inl (.inl h)
/-- all that was tracked, but for what stands at p, is as it was -/
def Kp (p : Addr) (H H' : Hp) : Prop := ∀ b o, b ≠ p → H b = some o → H' b = some o
theorem Kp.refl {p : Addr} {H : Hp} : Kp p H H := fun _ _ _ h => h
theorem Kp.trans {p : Addr} {H H1 H2 : Hp} (a : Kp p H H1) (b : Kp p H1 H2) : Kp p H H2 := fun c o n h => b c o n (a c o n h)
theorem Kp.same {p : Addr} {H H' : Hp} (a : Same H H') : Kp p H H' := fun c o _ h => a c o h
theorem Kp.new {p q : Addr} {H : Hp} {o : HO} (h : H q = none) : Kp p H (upd H q o) := fun b u _ e => by rw [upd_ne (ne_of_none e h)]; exact e
theorem Kp.at_ {p : Addr} {H : Hp} {o : HO} : Kp p H (upd H p o) := fun b u n e => by rw [upd_ne n]; exact e
theorem Same.new {q : Addr} {H : Hp} {o : HO} (h : H q = none) : Same H (upd H q o) := fun b u e => by rw [upd_ne (ne_of_none e h)]; exact e
theorem Same.free' {H H' : Hp} (s : Same H H') {l : Addr} (h : H' l = none) : H l = none := Same.free s h
theorem sameT {K : PySem.W.Frag} {H H' : Hp} {a : Addr} {xs : List V} (e : Same H H') (h : SqT K H a xs) : SqT K H' a xs := by
  rcases h with (h | ⟨o, h⟩) | h
  · exact .inl (.inl (e _ _ h))
  · exact .inl (.inr ⟨o, e _ _ h⟩)
  · exact .inr h
theorem sameK {K : PySem.W.Frag} {H H' : Hp} {a : Addr} {xs : List V} (e : Same H H') : SqK K H H' a xs := ⟨e.seq, sameT e⟩
theorem sameQ {K : PySem.W.Frag} {H H' : Hp} {a : Addr} {xs : List V} (e : Same H H') (h : Sq K H a xs) : Sq K H' a xs := h.imp e.seq (sameT e)
theorem kpL {K : PySem.W.Frag} {p : Addr} {H H' : Hp} {a : Addr} {xs : List V} (e : Kp p H H') (n : a ≠ p) (h : SqL K H a xs) : SqL K H' a xs := by
  rcases h with (h | ⟨o, h⟩) | h
  · exact .inl (.inl (e _ _ n h))
  · exact .inl (.inr ⟨o, e _ _ n h⟩)
  · exact .inr h
mutual
theorem sameD {K : PySem.W.Frag} {H H' : Hp} (e : Same H H') : ∀ (d : PyData) {v : V}, Dp K H v d → Dp K H' v d
  | .none, _, h => by cases h; exact .non
  | .bool b, _, h => by cases h; exact .bl b
  | .int i, _, h => by cases h; exact .int i
  | .str x, _, h => by cases h; exact .str x
  | .list ds, _, h => by
    cases h with
    | lst q r => exact .lst (e.seq q) (sameDs e ds r)
  | .tuple ds, _, h => by
    cases h with
    | tup q r => exact .tup (sameT e q) (sameDs e ds r)
  | .dict _, _, h => by cases h
theorem sameDs {K : PySem.W.Frag} {H H' : Hp} (e : Same H H') : ∀ (ds : List PyData) {vs : List V}, DpAll K H vs ds → DpAll K H' vs ds
  | [], _, h => by cases h; exact .nil
  | d :: ds, _, h => by
    cases h with
    | cons a b => exact .cons (sameD e d a) (sameDs e ds b)
end
end Spk

namespace Spk
open PySem PySem.Spec PyProof.Rows L2
/-! ### any objects, as data -/
def isNum : PyData → Bool
  | .int _ => true
  | _ => false
def intish : PyData → Bool
  | .int _ => true
  | .bool _ => true
  | _ => false
def boolish : PyData → Bool
  | .bool _ => true
  | _ => false
def tupish : PyData → Bool
  | .tuple _ => true
  | _ => false
def tyN : PyData → String
  | .none => "NoneType"
  | .bool _ => "bool"
  | .int _ => "int"
  | .str _ => "str"
  | .list _ => "list"
  | .tuple _ => "tuple"
  | .dict _ => "dict"
def edgeI (i : Int) : Bool := (decide (-1000000000000000000000000000000 ≤ i) && decide (i ≤ 1000000000000000000000000000000)) || (decide (i = -10000000000000000000000000000000) || decide (i = 10000000000000000000000000000000))
def isEdge : PyData → Bool
  | .int i => edgeI i
  | _ => false
def isPair : PyData → Bool
  | .tuple [a, b] => isEdge a && isEdge b
  | _ => false
def strP (p : Pr) : Bool := edgeI p.1 && edgeI p.2 && (decide (p.1 ≤ p.2) && (decide (p.1 < 10000000000000000000000000000000) && decide (-10000000000000000000000000000000 < p.2)))
/-- the data of a pair -/
def prD (p : Pr) : PyData := .tuple [.int p.1, .int p.2]
def isStr : PyData → Bool
  | .tuple [.int a, .int b] => strP (a, b)
  | _ => false
section
variable {K : PySem.W.Frag} {H : Hp} {v : V} {d : PyData}
theorem dpTy (h : Dp K H v d) : TyX K H v (.type (tyN d)) := by
  cases h with
  | non => exact .base .non
  | bl b => exact .base (.bl b)
  | int i => exact .base (.int i)
  | str x => exact .base (.str x)
  | lst q r =>
    rcases q with (q | ⟨o, q⟩) | ⟨o, its, n, q, c, _⟩
    · exact .base (.lst q)
    · exact .base (.frz q)
    · exact .kList q c
  | tup q r =>
    rcases q with (q | ⟨o, q⟩) | ⟨o, its, n, q, c, _⟩
    · exact .base (.tup q)
    · exact .fTuple q
    · exact .kTuple q c
theorem kitInt (d : PyData) : kitB (tyN d) "int" = some (intish d) := by cases d <;> simp only [tyN, intish] <;> decide +kernel
theorem kitBool (d : PyData) : kitB (tyN d) "bool" = some (boolish d) := by cases d <;> simp only [tyN, boolish] <;> decide +kernel
theorem kitTup (d : PyData) : kitB (tyN d) "tuple" = some (tupish d) := by cases d <;> simp only [tyN, tupish] <;> decide +kernel
theorem isNum_eq (d : PyData) : isNum d = (intish d && !boolish d) := by cases d <;> rfl
end
theorem inV2 (i a b : Int) : inV (.int i) [.int a, .int b] = (decide (i = a) || decide (i = b)) := by
  have e : ∀ a : Int, eqV (.int a) (.int i) = decide (i = a) := fun a => by
    show (a == i) = decide (i = a)
    by_cases h : i = a
    · rw [h, decide_eq_true rfl]; exact beq_self_eq_true a
    · rw [decide_eq_false h]; exact beq_eq_false_iff_ne.mpr (Ne.symm h)
  show (eqV (.int a) (.int i) || (eqV (.int b) (.int i) || false)) = _
  rw [e, e, Bool.or_false]
theorem dpAll_len {K : PySem.W.Frag} {H : Hp} : ∀ {vs : List V} {ds : List PyData}, DpAll K H vs ds → vs.length = ds.length
  | _, _, .nil => rfl
  | _, _, .cons _ t => congrArg Nat.succ (dpAll_len t)
theorem tup_of {K : PySem.W.Frag} {H : Hp} {v : V} {d : PyData} (h : Dp K H v d) (c : tupish d = true) : ∃ a xs ds, v = .ref a ∧ d = .tuple ds ∧ SqT K H a xs ∧ DpAll K H xs ds := by
  cases h with
  | tup sq da => exact ⟨_, _, _, rfl, rfl, sq, da⟩
  | _ => cases c
theorem int_of {K : PySem.W.Frag} {H : Hp} {v : V} {d : PyData} (h : Dp K H v d) (c : isNum d = true) : ∃ i, v = .int i ∧ d = .int i := by
  cases h with
  | int i => exact ⟨i, rfl, rfl⟩
  | _ => cases c
theorem dpAll2 {K : PySem.W.Frag} {H : Hp} {xs : List V} {ds : List PyData} (h : DpAll K H xs ds) (l : xs.length = 2) : ∃ x y d1 d2, xs = [x, y] ∧ ds = [d1, d2] ∧ Dp K H x d1 ∧ Dp K H y d2 := by
  cases h with
  | nil => simp at l
  | cons h1 h =>
    cases h with
    | nil => simp at l
    | cons h2 h =>
      cases h with
      | nil => exact ⟨_, _, _, _, rfl, rfl, h1, h2⟩
      | cons _ _ => simp at l
theorem dpPr {K : PySem.W.Frag} {H : Hp} {v : V} {a b : Int} (h : Dp K H v (.tuple [.int a, .int b])) : ∃ p, v = .ref p ∧ SqT K H p [.int a, .int b] := by
  cases h with
  | tup sq da =>
    cases da with
    | cons h1 h =>
      cases h with
      | cons h2 h =>
        cases h; cases h1; cases h2
        exact ⟨_, rfl, sq⟩
theorem isPair_len {ds : List PyData} (h : ds.length ≠ 2) : isPair (.tuple ds) = false := by
  unfold isPair
  split
  · rename_i e
    cases e
    exact absurd rfl h
  · rfl
theorem isPair_not {d : PyData} (h : ¬ tupish d = true) : isPair d = false := by
  cases d with
  | tuple _ => exact absurd rfl h
  | _ => rfl
theorem isEdge_not {d : PyData} (h : ¬ isNum d = true) : isEdge d = false := by
  cases d with
  | int _ => exact absurd rfl h
  | _ => rfl
theorem edge_of {d : PyData} (h : isEdge d = true) : ∃ a, d = .int a ∧ edgeI a = true := by
  unfold isEdge at h
  split at h
  · exact ⟨_, rfl, h⟩
  · cases h
theorem pair_of {d : PyData} (h : isPair d = true) : ∃ a b, d = .tuple [.int a, .int b] ∧ edgeI a = true ∧ edgeI b = true := by
  unfold isPair at h
  split at h
  · rw [Bool.and_eq_true] at h
    obtain ⟨a, rfl, ha⟩ := edge_of h.1
    obtain ⟨b, rfl, hb⟩ := edge_of h.2
    exact ⟨a, b, rfl, ha, hb⟩
  · cases h
theorem isStr_not {d : PyData} (h : ¬ isPair d = true) : isStr d = false := by
  unfold isStr
  split
  · rename_i a b
    have : (edgeI a && edgeI b) = false := by
      rw [← Bool.not_eq_true]
      exact h
    unfold strP
    rw [this, Bool.false_and]
  · rfl
theorem str_of {d : PyData} (h : isStr d = true) : ∃ a b, d = prD (a, b) ∧ strP (a, b) = true := by
  unfold isStr at h
  split at h
  · exact ⟨_, _, rfl, h⟩
  · cases h
/-- refs to tuples of two ints -/
def Pd (H : Hp) : List Addr → List Pr → Prop
  | [], [] => True
  | t :: ts, p :: ps => H t = some (.tup [.int p.1, .int p.2]) ∧ Pd H ts ps
  | _, _ => False
theorem Pd.len {H : Hp} : ∀ {ts : List Addr} {ps : List Pr}, Pd H ts ps → ts.length = ps.length
  | [], [], _ => rfl
  | t :: ts, p :: ps, h => by simp [Pd.len h.2]
  | [], _ :: _, h => h.elim
  | _ :: _, [], h => h.elim
theorem Pd.same {H H' : Hp} (e : Same H H') : ∀ {ts : List Addr} {ps : List Pr}, Pd H ts ps → Pd H' ts ps
  | [], [], _ => trivial
  | t :: ts, p :: ps, h => ⟨e _ _ h.1, Pd.same e h.2⟩
  | [], _ :: _, h => h.elim
  | _ :: _, [], h => h.elim
/-- what changes is no tuple -/
theorem Pd.kp {q : Addr} {H H' : Hp} (e : Kp q H H') (hq : ∀ xs, H q ≠ some (.tup xs)) : ∀ {ts : List Addr} {ps : List Pr}, Pd H ts ps → Pd H' ts ps
  | [], [], _ => trivial
  | t :: ts, p :: ps, h => ⟨e _ _ (fun z => hq _ (z ▸ h.1)) h.1, Pd.kp e hq h.2⟩
  | [], _ :: _, h => h.elim
  | _ :: _, [], h => h.elim
theorem Pd.get {H : Hp} : ∀ {ts : List Addr} {ps : List Pr}, Pd H ts ps → ∀ {i : Nat} {t : Addr}, ts[i]? = some t → ∃ p, ps[i]? = some p ∧ H t = some (.tup [.int p.1, .int p.2])
  | [], [], _, i, t, h => by simp at h
  | t :: ts, p :: ps, h, 0, t', e => by
    simp at e; subst e
    exact ⟨p, rfl, h.1⟩
  | t :: ts, p :: ps, h, i + 1, t', e => by
    obtain ⟨q, h1, h2⟩ := Pd.get h.2 (i := i) (t := t') (by simpa using e)
    exact ⟨q, by simpa using h1, h2⟩
  | [], _ :: _, h, _, _, _ => h.elim
  | _ :: _, [], h, _, _, _ => h.elim
theorem Pd.app {H : Hp} : ∀ {ts : List Addr} {ps : List Pr} {us : List Addr} {qs : List Pr}, Pd H ts ps → Pd H us qs → Pd H (ts ++ us) (ps ++ qs)
  | [], [], _, _, _, h => h
  | t :: ts, p :: ps, _, _, h, k => ⟨h.1, Pd.app h.2 k⟩
  | [], _ :: _, _, _, h, _ => h.elim
  | _ :: _, [], _, _, h, _ => h.elim
theorem Pd.set {H : Hp} : ∀ {ts : List Addr} {ps : List Pr} (i : Nat) {t : Addr} {p : Pr}, Pd H ts ps → H t = some (.tup [.int p.1, .int p.2]) → Pd H (ts.set i t) (ps.set i p)
  | [], [], _, _, _, h, _ => h
  | t :: ts, p :: ps, 0, _, _, h, k => ⟨k, h.2⟩
  | t :: ts, p :: ps, i + 1, _, _, h, k => ⟨h.1, Pd.set i h.2 k⟩
  | [], _ :: _, _, _, _, h, _ => h.elim
  | _ :: _, [], _, _, _, h, _ => h.elim
theorem Pd.dp {K : PySem.W.Frag} {H : Hp} : ∀ {ts : List Addr} {ps : List Pr}, Pd H ts ps → DpAll K H (ts.map V.ref) (ps.map prD)
  | [], [], _ => .nil
  | t :: ts, p :: ps, h => .cons (.tup (SqT.hp h.1) (.cons (.int _) (.cons (.int _) .nil))) (Pd.dp h.2)
  | [], _ :: _, h => h.elim
  | _ :: _, [], h => h.elim
/-- the draws of a law -/
def BagAt (H : Hp) (p : Addr) (c : Int) : Prop := ∃ b0 b1 b2 b3 : Int, H p = some (.lst [.int b0, .int b1, .int b2, .int b3]) ∧ 0 ≤ b0 ∧ 0 ≤ b1 ∧ b1 < 2305843009213693951 ∧ 0 ≤ b2 ∧ b2 ≤ 1073741824 ∧ 0 ≤ b3 ∧ b3 ≤ c
theorem BagAt.mono {H : Hp} {p : Addr} {c d : Int} (h : BagAt H p c) (e : c ≤ d) : BagAt H p d := by
  obtain ⟨b0, b1, b2, b3, h0, h1, h2, h3, h4, h5, h6, h7⟩ := h
  exact ⟨b0, b1, b2, b3, h0, h1, h2, h3, h4, h5, h6, by omega⟩
theorem BagAt.same {H H' : Hp} {p : Addr} {c : Int} (h : BagAt H p c) (e : Same H H') : BagAt H' p c := by
  obtain ⟨b0, b1, b2, b3, h0, h1⟩ := h
  exact ⟨b0, b1, b2, b3, e _ _ h0, h1⟩
theorem BagAt.lst {H : Hp} {p : Addr} {c : Int} (h : BagAt H p c) : ∃ xs, H p = some (.lst xs) := by
  obtain ⟨b0, b1, b2, b3, h0, h1⟩ := h
  exact ⟨_, h0⟩
/-- all but the bag at p is as it was, what was free too -/
def But (p : Addr) (H H' : Hp) : Prop := ∀ b, b ≠ p → H' b = H b
theorem But.kp {p : Addr} {H H' : Hp} (h : But p H H') : Kp p H H' := fun b o n e => (h b n).trans e
theorem But.trans {p : Addr} {H H1 H2 : Hp} (a : But p H H1) (b : But p H1 H2) : But p H H2 := fun c n => (b c n).trans (a c n)
theorem But.refl {p : Addr} {H : Hp} : But p H H := fun _ _ => rfl
theorem lgDiv {i m : Int} (h0 : 0 < m) (h : m ≤ 1000000000000000000000000000000000000000000000) : CDivW i m :=
  wide_div (b := 200) h0 (by omega) (by decide) (by decide)
theorem vals_rev2 {zs : List V} {ws : List Value} (r : Vals zs ws) : Vals zs.reverse ws.reverse := by
  have : ∀ {zs : List V} {ws : List Value} {as : List V} {bs : List Value}, Vals zs ws → Vals as bs → Vals (zs.reverseAux as) (ws.reverseAux bs) := by
    intro zs
    induction zs with
    | nil => intro ws as bs h k; cases h; exact k
    | cons z zs ih =>
      intro ws as bs h k
      cases h with
      | @cons _ u _ us a b =>
        show Vals (zs.reverseAux (z :: as)) (us.reverseAux (u :: bs))
        exact ih b (.cons a k)
  exact this r .nil
end Spk
namespace Spk
open PySem PySem.Spec PyProof.Rows L2
theorem eqvAllPs : ∀ ps qs : List Pr, PyData.eqvAll (ps.map prD) (qs.map prD) = decide (ps = qs)
  | [], [] => rfl
  | p :: ps, [] => rfl
  | [], q :: qs => rfl
  | p :: ps, q :: qs => by
    show (((p.1 == q.1) && ((p.2 == q.2) && true)) && PyData.eqvAll (ps.map prD) (qs.map prD)) = decide (p :: ps = q :: qs)
    rw [eqvAllPs ps qs]
    obtain ⟨a, b⟩ := p
    obtain ⟨c, d⟩ := q
    by_cases h1 : a = c <;> by_cases h2 : b = d <;> by_cases h3 : ps = qs <;> simp [h1, h2, h3]
theorem eqvPs (ps qs : List Pr) : PyData.eqv (.list (ps.map prD)) (.list (qs.map prD)) = decide (ps = qs) := eqvAllPs ps qs
theorem canLayPs : ∀ ps : List Pr, PyData.canLayAll0 (ps.map prD) = true
  | [] => rfl
  | p :: ps => by
    show (PyData.canLay0 (prD p) && PyData.canLayAll0 (ps.map prD)) = true
    rw [canLayPs ps]; rfl
theorem depthPs : ∀ ps : List Pr, PyData.depthAll (ps.map prD) ≤ 1
  | [] => Nat.zero_le _
  | p :: ps => by
    show max (PyData.depth (prD p)) (PyData.depthAll (ps.map prD)) ≤ 1
    exact Nat.max_le.mpr ⟨by show PyData.depth (.tuple [.int p.1, .int p.2]) ≤ 1; simp [PyData.depth, PyData.depthAll], depthPs ps⟩
theorem shapedPs (ps : List Pr) : SeqAt.shaped (.list (ps.map prD)) = true := by
  have h1 : PyData.canLay0 (.list (ps.map prD)) = true := canLayPs ps
  have h2 : PyData.depth (.list (ps.map prD)) ≤ 64 := by
    have := depthPs ps
    simp only [PyData.depth]; omega
  unfold SeqAt.shaped
  rw [h1, decide_eq_true h2]; rfl
theorem dpAll_get {K : PySem.W.Frag} {H : Hp} : ∀ {xs : List V} {ds : List PyData}, DpAll K H xs ds → ∀ {i : Nat} {x : V}, xs[i]? = some x → ∃ d, d ∈ ds ∧ Dp K H x d
  | _, _, .nil, i, x, h => by simp at h
  | _, _, .cons a t, 0, x, h => by
    simp at h; subst h
    exact ⟨_, List.mem_cons_self, a⟩
  | _, _, .cons a t, i + 1, x, h => by
    obtain ⟨d, h1, h2⟩ := dpAll_get t (i := i) (x := x) (by simpa using h)
    exact ⟨d, List.mem_cons_of_mem _ h1, h2⟩
def endsV (z : Bool) : V := if z then .str "shut" else .str "half"
theorem endsV_shut (z : Bool) : decide (endsV z = .str "shut") = z := by cases z <;> decide +kernel
theorem endsV_half (z : Bool) : decide (endsV z = .str "half") = !z := by cases z <;> decide +kernel
theorem endsV_scal (z : Bool) : scal (endsV z) (.str "shut") = true := by cases z <;> rfl
theorem endsV_scalH (z : Bool) : scal (endsV z) (.str "half") = true := by cases z <;> rfl
theorem strP_le {p : Pr} (h : strP p = true) : p.1 ≤ p.2 := by
  unfold strP at h
  simp only [Bool.and_eq_true, decide_eq_true_eq] at h
  exact h.2.1
theorem map_get {α β : Type} {f : α → β} {l : List α} {i : Nat} {y : β} (h : (l.map f)[i]? = some y) : ∃ x, l[i]? = some x ∧ y = f x := by
  rw [List.getElem?_map] at h
  cases e : l[i]? with
  | none => rw [e] at h; cases h
  | some x => rw [e] at h; exact ⟨x, rfl, (Option.some.inj h).symm⟩
theorem take_more {α : Type} {l : List α} {i : Nat} {x : α} (h : l[i]? = some x) : l.take (i + 1) = l.take i ++ [x] := by
  rw [List.take_add_one, h]; rfl
theorem stepJ_len (l : List Pr) (s : List Pr × Pr) : ((l.foldl stepJ s).1).length ≤ s.1.length + l.length := by
  induction l generalizing s with
  | nil => exact Nat.le_refl _
  | cons p r ih =>
    have h := ih (stepJ s p)
    have : (stepJ s p).1.length ≤ s.1.length + 1 := by unfold stepJ; split <;> simp
    simp only [List.foldl_cons, List.length_cons]; omega
theorem stepJ_len0 (l : List Pr) (p : Pr) : ((l.foldl stepJ ([], p)).1).length ≤ l.length := by
  have := stepJ_len l ([], p)
  simpa using this
end Spk
namespace Spk
open PySem PySem.Spec PyProof.Rows L2
/-- the pair that a ref's tuple holds -/
def kOf (H : Hp) : V → Int × Int
  | .ref t => match H t with
    | some (.tup [.int a, .int b]) => (a, b)
    | _ => (0, 0)
  | _ => (0, 0)
theorem kOf_at {H : Hp} {t : Addr} {p : Pr} (h : H t = some (.tup [.int p.1, .int p.2])) : kOf H (.ref t) = p := by
  show (match H t with | some (.tup [.int a, .int b]) => (a, b) | _ => (0, 0)) = p
  rw [h]
theorem Pd.map {H : Hp} : ∀ {ts : List Addr} {ps : List Pr}, Pd H ts ps → (ts.map V.ref).map (kOf H) = ps
  | [], [], _ => rfl
  | t :: ts, p :: ps, h => by
    show kOf H (.ref t) :: (ts.map V.ref).map (kOf H) = p :: ps
    rw [kOf_at h.1, Pd.map h.2]
  | [], _ :: _, h => h.elim
  | _ :: _, [], h => h.elim
theorem Pd.all {H : Hp} : ∀ {ts : List Addr} {ps : List Pr}, Pd H ts ps → ∀ x ∈ ts.map V.ref, ∃ t, x = V.ref t ∧ H t = some (.tup [.int (kOf H x).1, .int (kOf H x).2])
  | [], [], _, x, hx => by simp at hx
  | t :: ts, p :: ps, h, x, hx => by
    rcases List.mem_cons.mp (show x ∈ V.ref t :: ts.map V.ref from hx) with e | hx
    · exact ⟨t, e, by rw [e, kOf_at h.1]; exact h.1⟩
    · exact Pd.all h.2 x hx
  | [], _ :: _, h, _, _ => h.elim
  | _ :: _, [], h, _, _ => h.elim
theorem refs_of {H : Hp} : ∀ {ys : List V}, (∀ x ∈ ys, ∃ t, x = V.ref t ∧ H t = some (.tup [.int (kOf H x).1, .int (kOf H x).2])) → ∃ us, ys = us.map V.ref ∧ Pd H us (ys.map (kOf H))
  | [], _ => ⟨[], rfl, trivial⟩
  | y :: ys, h => by
    obtain ⟨t, e, ht⟩ := h y (by simp)
    obtain ⟨us, e2, pd⟩ := refs_of (ys := ys) fun x hx => h x (by simp [hx])
    exact ⟨t :: us, by rw [e, e2]; rfl, ht, pd⟩
theorem ltP_ple {k : V → Int × Int} {x y : V} (h : ltP k y x = false) : ple (k x) (k y) := by
  have h2 : ¬ (SrtO.lexB (k y) (k x) = true) := by rw [show SrtO.lexB (k y) (k x) = false from h]; decide
  rw [SrtO.lexB_iff] at h2
  unfold ple
  omega
/-- sorted of refs to pairs -/
theorem sorted_refs {H : Hp} {ts : List Addr} {ps : List Pr} {ys : List V} (pd : Pd H ts ps) (hs : SrtO.Srtd (ltP (kOf H)) ys) (hb : SrtO.Stb (ltP (kOf H)) ys (ts.map V.ref)) :
    ∃ us, ys = us.map V.ref ∧ Pd H us (srt ps) := by
  obtain ⟨us, e, pu⟩ := refs_of (H := H) (ys := ys) fun x hx => pd.all x (hb.perm.mem_iff.mp hx)
  have hp : (ys.map (kOf H)).Perm ps := by
    have := hb.perm.map (kOf H)
    rwa [pd.map] at this
  have hso : (ys.map (kOf H)).Pairwise ple := List.pairwise_map.mpr (hs.imp fun h => ltP_ple h)
  have e2 : ys.map (kOf H) = srt ps := sorted_uniq hso (srt_sorted ps) (hp.trans (srt_perm ps).symm)
  exact ⟨us, e, e2 ▸ pu⟩
end Spk
namespace Spk
open PySem PySem.Spec PyProof.Rows L2
theorem gapd_iff : ∀ {l : List Pr}, gapd l = true ↔ ∀ i p q, l[i]? = some p → l[i + 1]? = some q → p.2 < q.1
  | [] => ⟨fun _ i p q h _ => by simp at h, fun _ => rfl⟩
  | [x] => ⟨fun _ i p q _ h => by simp at h, fun _ => rfl⟩
  | x :: y :: r => by
    have ih := gapd_iff (l := y :: r)
    constructor
    · intro h i p q hp hq
      unfold gapd at h
      rw [Bool.and_eq_true, decide_eq_true_eq] at h
      cases i with
      | zero => simp at hp hq; subst hp hq; exact h.1
      | succ i => exact ih.mp h.2 i p q (by simpa using hp) (by simpa using hq)
    · intro h
      unfold gapd
      rw [Bool.and_eq_true, decide_eq_true_eq]
      exact ⟨h 0 x y rfl rfl, ih.mpr fun i p q hp hq => h (i + 1) p q (by simpa using hp) (by simpa using hq)⟩
/-- what the first i pairs have, if the list is in one form so far -/
def oneTo (z : Bool) (l : List Pr) (i : Nat) : Prop := ∀ j, j < i → ∀ p, l[j]? = some p → emp z p = false ∧ ∀ k q, j = k + 1 → l[k]? = some q → q.2 < p.1
theorem oneTo_all {z : Bool} {l : List Pr} (h : oneTo z l l.length) : oneF z l = true := by
  unfold oneF
  rw [Bool.and_eq_true, List.all_eq_true]
  constructor
  · intro p hp
    obtain ⟨j, hj⟩ := List.mem_iff_getElem?.mp hp
    have hlt : j < l.length := by
      obtain ⟨h1, _⟩ := List.getElem?_eq_some_iff.mp hj
      exact h1
    rw [(h j hlt p hj).1]; rfl
  · refine gapd_iff.mpr fun i p q hp hq => ?_
    have hlt : i + 1 < l.length := by
      obtain ⟨h1, _⟩ := List.getElem?_eq_some_iff.mp hq
      exact h1
    exact (h (i + 1) hlt q hq).2 i p rfl hp
theorem oneF_empty {z : Bool} {l : List Pr} {i : Nat} {p : Pr} (hp : l[i]? = some p) (e : emp z p = true) : oneF z l = false := by
  rw [← Bool.not_eq_true]
  intro h
  unfold oneF at h
  rw [Bool.and_eq_true, List.all_eq_true] at h
  have := h.1 p (List.mem_of_getElem? hp)
  rw [e] at this
  cases this
theorem oneF_gap {z : Bool} {l : List Pr} {i : Nat} {p q : Pr} (hp : l[i]? = some p) (hq : l[i + 1]? = some q) (e : ¬ p.2 < q.1) : oneF z l = false := by
  rw [← Bool.not_eq_true]
  intro h
  unfold oneF at h
  rw [Bool.and_eq_true] at h
  exact e (gapd_iff.mp h.2 i p q hp hq)
theorem oneTo_more {z : Bool} {l : List Pr} {i : Nat} {p : Pr} (h : oneTo z l i) (hp : l[i]? = some p) (e : emp z p = false) (g : ∀ k q, i = k + 1 → l[k]? = some q → q.2 < p.1) : oneTo z l (i + 1) := by
  intro j hj x hx
  by_cases c : j < i
  · exact h j c x hx
  · obtain rfl : j = i := by omega
    obtain rfl : p = x := Option.some.inj (hp.symm.trans hx)
    exact ⟨e, g⟩
theorem emp_half {p : Pr} (h : p.1 ≤ p.2) : emp false p = decide (p.1 = p.2) := by
  show decide (p.2 ≤ p.1) = decide (p.1 = p.2)
  rw [decide_eq_decide]; omega
theorem emp_shut {p : Pr} (h : p.1 ≤ p.2) : emp true p = false := by
  show decide (p.2 < p.1) = false
  rw [decide_eq_false_iff_not]; omega
end Spk
namespace Spk
open PySem PySem.Spec PyProof.Rows L2
theorem mulB {x f F : Int} (h1 : -1 ≤ x) (h2 : x ≤ 6) (f0 : 0 ≤ f) (fF : f ≤ F) : -F ≤ x * f ∧ x * f ≤ 6 * F := by
  have : x = -1 ∨ x = 0 ∨ x = 1 ∨ x = 2 ∨ x = 3 ∨ x = 4 ∨ x = 5 ∨ x = 6 := by omega
  rcases this with h | h | h | h | h | h | h | h <;> subst h <;> omega
theorem rowStep {f at' X Y : Int} {i : Nat} (f1 : 1 ≤ f) (f2 : f ≤ 200000000000000000001) (hi : i < 21) (x1 : -1 ≤ X) (x2 : X ≤ 3) (y1 : 0 ≤ Y) (y2 : Y ≤ 3)
    (a1 : -(200000000000000000001 * (20 + 6 * (i : Int))) ≤ at') (a2 : at' ≤ 200000000000000000001 * (20 + 6 * (i : Int))) :
    (-1000000000000000000000000000000 ≤ at' + X * f ∧ at' + X * f ≤ at' + (X + Y) * f ∧ at' + (X + Y) * f ≤ 1000000000000000000000000000000) ∧
      (-(200000000000000000001 * (20 + 6 * (((i + 1 : Nat) : Nat) : Int))) ≤ at' + (X + Y) * f ∧ at' + (X + Y) * f ≤ 200000000000000000001 * (20 + 6 * (((i + 1 : Nat) : Nat) : Int))) := by
  obtain ⟨p1, p2⟩ := mulB (x := X) (f := f) (F := 200000000000000000001) (by omega) (by omega) (by omega) f2
  obtain ⟨q1, q2⟩ := mulB (x := X + Y) (f := f) (F := 200000000000000000001) (by omega) (by omega) (by omega) f2
  have e : (X + Y) * f = X * f + Y * f := Int.add_mul X Y f
  have y0 : 0 ≤ Y * f := Int.mul_nonneg y1 (by omega)
  generalize (X + Y) * f = w at *
  generalize X * f = u at *
  generalize Y * f = v at *
  omega
theorem strP_of {b e : Int} (h1 : -1000000000000000000000000000000 ≤ b) (h2 : b ≤ e) (h3 : e ≤ 1000000000000000000000000000000) : strP (b, e) = true := by
  unfold strP edgeI
  simp only [Bool.and_eq_true, Bool.or_eq_true, decide_eq_true_eq]
  omega
theorem strP_first {p : Pr} (h : strP p = true) : strP (-10000000000000000000000000000000, p.2) = true := by
  obtain ⟨a, b⟩ := p
  unfold strP edgeI at h ⊢
  simp only [Bool.and_eq_true, Bool.or_eq_true, decide_eq_true_eq] at h ⊢
  simp only [Int.reduceNeg, Int.reduceLE, Int.reduceLT, Int.reduceEq, true_and, and_true, true_or, or_true, false_or, or_false, false_and, and_false]
  omega
theorem strP_last {p : Pr} (h : strP p = true) : strP (p.1, 10000000000000000000000000000000) = true := by
  obtain ⟨a, b⟩ := p
  unfold strP edgeI at h ⊢
  simp only [Bool.and_eq_true, Bool.or_eq_true, decide_eq_true_eq] at h ⊢
  simp only [Int.reduceNeg, Int.reduceLE, Int.reduceLT, Int.reduceEq, true_and, and_true, true_or, or_true, false_or, or_false, false_and, and_false]
  omega
theorem set_good {l : List Pr} {i : Nat} {p : Pr} (h : ∀ x ∈ l, strP x = true) (hp : strP p = true) : ∀ x ∈ l.set i p, strP x = true := fun x hx => by
  rcases List.mem_or_eq_of_mem_set hx with h1 | h1
  · exact h x h1
  · exact h1 ▸ hp
theorem shapedNil : SeqAt.shaped (.list []) = true := shapedPs []
theorem eqvNil (ps : List Pr) : PyData.eqv (.list (ps.map prD)) (.list []) = decide (ps = []) := eqvPs ps []
end Spk
namespace Spk
open PySem PySem.Spec PyProof.Rows L2
theorem ixN_nat {n j : Nat} {i : Int} (e : i = (j : Int)) (h : j < n) : ixN n i = some j := by
  subst e
  unfold ixN
  rw [if_pos (Int.natCast_nonneg j), if_pos (Int.ofNat_lt.mpr h)]
  simp
theorem ixN_last {n : Nat} (h : 0 < n) : ixN n (-1) = some (n - 1) := by
  unfold ixN
  rw [if_neg (by decide), if_pos (by omega)]
  congr 1
  omega
theorem at_last {ts : List Addr} {t : Addr} (h : ts[ts.length - 1]? = some t) : atI (ts.map V.ref) (-1) = some (.ref t) := by
  have hl : ts.length - 1 < ts.length := (List.getElem?_eq_some_iff.mp h).1
  unfold atI
  rw [ixN_last (by rw [List.length_map]; omega)]
  show (ts.map V.ref)[(ts.map V.ref).length - 1]? = some (.ref t)
  rw [List.length_map, List.getElem?_map, h]; rfl
theorem at_ref {ts : List Addr} {t : Addr} {j : Nat} {i : Int} (e : i = (j : Int)) (h : ts[j]? = some t) : atI (ts.map V.ref) i = some (.ref t) :=
  at_of e (by rw [List.getElem?_map, h]; rfl)
theorem refs_set {ts : List Addr} {j : Nat} {t : Addr} : (ts.map V.ref).set j (.ref t) = (ts.set j t).map V.ref := by
  rw [List.map_set]
end Spk
namespace Spk
open PySem PySem.Spec PyProof.Rows L2
theorem reprB (b : Bool) : (PyData.bool b).showable = true ∧ (PyData.bool b).hasDict = false ∧ (PyData.bool b).depth ≤ 64 ∧ (PyData.bool b).shown.length ≤ sizeLine := by
  cases b <;> decide +kernel
theorem reprBB (b : Bool) : (PyData.list [.bool b, .bool b]).showable = true ∧ (PyData.list [.bool b, .bool b]).hasDict = false ∧ (PyData.list [.bool b, .bool b]).depth ≤ 64 ∧ (PyData.list [.bool b, .bool b]).shown.length ≤ sizeLine := by
  cases b <;> decide +kernel
theorem mode_of {j : Nat} {x : V} (h : ([.str "half", .str "shut"] : List V)[j]? = some x) : ∃ z, x = endsV z := by
  match j, h with
  | 0, h => exact ⟨false, (Option.some.inj h).symm⟩
  | 1, h => exact ⟨true, (Option.some.inj h).symm⟩
theorem pd_nil {H : Hp} {us : List Addr} (h : Pd H us []) : us = [] := by
  cases us with
  | nil => rfl
  | cons _ _ => exact h.elim
/-- behind a bag and what is drawn with it all that was tracked ahead is as it was -/
theorem bag_same {p : Addr} {H H1 H2 : Hp} (np : H p = none) (a : But p H H1) (b : Kp p H1 H2) : Same H H2 := fun c o h =>
  b c o (ne_of_none h np) ((a c (ne_of_none h np)).trans h)
theorem union_eqv {z : Bool} {ps : List Pr} (h : ∀ p ∈ ps, strP p = true) : PyData.eqv (.list ((unionM z ps).map prD)) (.list (ps.map prD)) = oneF z ps := by
  rw [eqvPs, Bool.eq_iff_iff, decide_eq_true_eq]
  exact union_fix fun p hp => strP_le (h p hp)
end Spk
namespace Spk
open PySem PySem.Spec PyProof.Rows L2
theorem cut_to {us : List Addr} {i : Int} {n : Nat} (e : i = (n : Int)) : cutV (us.map V.ref) none (some i) = (us.take n).map V.ref := by
  subst e
  unfold cutV
  rw [HT.sIx_none, HT.sIx_nat, List.drop_zero, Nat.sub_zero, List.map_take, List.length_map]
  by_cases h : n ≤ us.length
  · rw [Nat.min_eq_left h]
  · rw [Nat.min_eq_right (by omega), List.take_of_length_le (by rw [List.length_map]; omega), List.take_of_length_le (by rw [List.length_map]; omega)]
theorem cut_from {us : List Addr} {i : Int} {n : Nat} (e : i = (n : Int)) : cutV (us.map V.ref) (some i) none = (us.drop n).map V.ref := by
  subst e
  unfold cutV
  rw [HT.sIx_none, HT.sIx_nat, List.map_drop, List.length_map]
  by_cases h : n ≤ us.length
  · rw [Nat.min_eq_left h]
    exact List.take_of_length_le (by rw [List.length_drop, List.length_map]; omega)
  · rw [Nat.min_eq_right (by omega), List.drop_of_length_le (by rw [List.length_map]; omega), List.drop_of_length_le (by rw [List.length_map]; omega), List.take_nil]
theorem Pd.take {H : Hp} : ∀ {ts : List Addr} {ps : List Pr} (n : Nat), Pd H ts ps → Pd H (ts.take n) (ps.take n)
  | [], [], _, _ => by simp [Pd]
  | t :: ts, p :: ps, 0, _ => by simp [Pd]
  | t :: ts, p :: ps, n + 1, h => ⟨h.1, Pd.take n h.2⟩
  | [], _ :: _, _, h => h.elim
  | _ :: _, [], _, h => h.elim
theorem Pd.drop {H : Hp} : ∀ {ts : List Addr} {ps : List Pr} (n : Nat), Pd H ts ps → Pd H (ts.drop n) (ps.drop n)
  | [], [], _, _ => by simp [Pd]
  | t :: ts, p :: ps, 0, h => h
  | t :: ts, p :: ps, n + 1, h => Pd.drop n h.2
  | [], _ :: _, _, h => h.elim
  | _ :: _, [], _, h => h.elim
theorem bag_not_refs {H : Hp} {p s : Addr} {c : Int} {ts : List Addr} (bg : BagAt H p c) (h : H s = some (.lst (ts.map V.ref))) : s ≠ p := by
  rintro rfl
  obtain ⟨b0, b1, b2, b3, e, _⟩ := bg
  rw [e] at h
  have h := HO.lst.inj (Option.some.inj h)
  cases ts with
  | nil => cases h
  | cons t ts => exact V.noConfusion (List.cons.inj h).1
theorem bag_not_tup {H : Hp} {p t : Addr} {c : Int} {xs : List V} (bg : BagAt H p c) (h : H t = some (.tup xs)) : t ≠ p := by
  rintro rfl
  obtain ⟨b0, b1, b2, b3, e, _⟩ := bg
  rw [e] at h; cases h
theorem bag_kp {H H' : Hp} {p q : Addr} {c : Int} (bg : BagAt H p c) (k : Kp q H H') (n : p ≠ q) : BagAt H' p c := by
  obtain ⟨b0, b1, b2, b3, e, r⟩ := bg
  exact ⟨b0, b1, b2, b3, k _ _ n e, r⟩
end Spk
namespace Spk
open PySem PySem.Spec PyProof.Rows L2
theorem strP_cutR {b : Pr} {c : Int} (h : strP b = true) (h1 : b.1 ≤ c) (h2 : c ≤ b.2) (h3 : -1000000000000000000000000000000 ≤ c) (h4 : c ≤ 1000000000000000000000000000000) : strP (c, b.2) = true := by
  unfold strP edgeI at *
  simp only [Bool.and_eq_true, Bool.or_eq_true, decide_eq_true_eq] at *
  omega
theorem strP_cutL {b : Pr} {c : Int} (h : strP b = true) (h1 : b.1 ≤ c) (h2 : c ≤ b.2) (h3 : -1000000000000000000000000000000 ≤ c) (h4 : c ≤ 1000000000000000000000000000000) : strP (b.1, c) = true := by
  unfold strP edgeI at *
  simp only [Bool.and_eq_true, Bool.or_eq_true, decide_eq_true_eq] at *
  omega
end Spk
namespace Spk
open PySem PySem.Spec PyProof.Rows L2
theorem strP_ext {c p : Pr} (h : strP c = true) (k : strP p = true) (e : c.2 < p.2) : strP (c.1, p.2) = true := by
  unfold strP edgeI at *
  simp only [Bool.and_eq_true, Bool.or_eq_true, decide_eq_true_eq] at *
  omega
end Spk

/-! the text of spanloops_k07_whole_unions_agree -/
namespace Spk
open PySem PySem.Spec PyProof.Rows L2
def topS (i : Nat) : Stmt := PySem.Challenge.pw_spanloops_k07_whole_unions_agree.main.body.getD i (.Pass ⟨0, 0, 0, 0⟩)
structure Blt (mg : Str → Option Value) : Prop where
  b_abs : mg "abs" = none
  b_bool : mg "bool" = none
  b_enumerate : mg "enumerate" = none
  b_int : mg "int" = none
  b_isinstance : mg "isinstance" = none
  b_len : mg "len" = none
  b_list : mg "list" = none
  b_max : mg "max" = none
  b_min : mg "min" = none
  b_range : mg "range" = none
  b_sorted : mg "sorted" = none
  b_tuple : mg "tuple" = none
structure Txt (K : PySem.W.Frag) (mg : Str → Option Value) : Prop where
  g_FIRST : ∃ t, mg "FIRST" = some (.int (-10000000000000000000000000000000) t)
  g_LAST : ∃ t, mg "LAST" = some (.int (10000000000000000000000000000000) t)
  g_FAR : ∃ t, mg "FAR" = some (.int (1000000000000000000000000000000) t)
  ends : EndsT K mg
end Spk
namespace Spk
open PySem PySem.Spec PyProof.Rows L2

local macro_rules | `(tactic| walk_at "ne") => `(tactic| first | assumption | exact Ne.symm (by assumption) | exact ne_of_none (by walk_at "hp") (by assumption) | exact Ne.symm (ne_of_none (by walk_at "hp") (by assumption)))
local macro_rules | `(tactic| walk_at "hp") => `(tactic| first | assumption | exact upd_same | (refine Eq.trans (upd_ne ?_) ?_; (focus walk_at "ne"); walk_at "hp"))
local macro_rules | `(tactic| walk_at "fact") => `(tactic| first | rfl | assumption | exact SqL.hp (by walk_at "hp") | exact SqT.hp (by walk_at "hp") | walk_at "hp" | exact Or.inl (SqL.hp (by walk_at "hp")) | exact Or.inr (SqT.hp (by walk_at "hp")) | omega | decide | exact Nat.le_of_ble_eq_true rfl | exact lgDiv (by omega) (by omega) | exact Or.inl ⟨by omega, by omega⟩ | exact Or.inr ⟨by omega, by omega⟩ | exact ⟨by omega, by omega⟩ | exact ⟨by omega, by omega, by omega⟩)
local macro_rules | `(tactic| walk_at "vc1") => `(tactic| first
  | (refine And.intro ?_ ?_; (focus walk_at "fact"))
  | refine iteF ?_
  | refine iteT ?_
  | refine ite2 (fun _ => ?_) (fun _ => ?_)
  | apply Exists.intro
  | (refine Or.inl ?_; apply Exists.intro; refine And.intro rfl ?_)
  | (refine Or.inr ?_; apply Exists.intro; refine And.intro rfl ?_))
local macro_rules | `(tactic| walk_at "vc") => `(tactic| repeat' (walk_at "vc1"))
/-! is_number -/
abbrev s_is_number : Stmt := topS 8
abbrev sc_is_number_N : List Str := ["value"]
theorem sc_is_number : FnScope sc_is_number_N ["value"] (defScope s_is_number) := ⟨rfl, rfl, rfl, by decide +kernel, rfl, by decide +kernel, by decide +kernel⟩
def sp_is_number (K : PySem.W.Frag) : Sp := fun vs H Q _ => ∃ (v : V) (d : PyData), vs = [v] ∧ Dp K H v d ∧ Q (.bl (isNum d)) H
section
variable {P : Program} {w : World} {K : PySem.W.Frag} {mg : Str → Option Value} {bh : Heap}
theorem ok_is_number {f : Addr} {fd : FuncData}  (B : Blt mg) (T : Txt K mg)  (F : Fun K "is_number" "is_number" s_is_number f fd) : FnOk P w K mg bh CX0 1 f fd ["value"] (sp_is_number K) := by
  refine F.ok sc_is_number (fun vs H Q E h => ?_) (fun cdv A outer s H vs Q E hr h => ?_)
  · obtain ⟨v, d, rfl, _⟩ := h
    rfl
  · obtain ⟨v, d, rfl, dp, q⟩ := h
    refine ⟨_, (pss_one (ps_ret (pe_and (pe_callB call_isi (by rfl) B.b_isinstance (by decide +kernel) (pa_cons (pv 0) (pa_cons (pe_bltn (v := .ty "int") (by rfl) B.b_int (by decide +kernel) rfl) pa_nil))) (pe_one (pe_not (pe_callB call_isi (by rfl) B.b_isinstance (by decide +kernel) (pa_cons (pv 0) (pa_cons (pe_bltn (v := .ty "bool") (by rfl) B.b_bool (by decide +kernel) rfl) pa_nil)))))))), ?_⟩
    refine ⟨v, rfl, _, _, _, _, _, rfl, .ty _, dpTy dp, kit_ty (kitInt d), _, rfl, ?_⟩
    refine ite2 (fun c => ?_) (fun c => ?_)
    · refine ⟨v, rfl, _, _, _, _, _, rfl, .ty _, dpTy dp, kit_ty (kitBool d), _, rfl, ?_⟩
      rw [isNum_eq, c] at q
      exact q
    · rw [isNum_eq, Bool.eq_false_iff.mpr c] at q
      exact q
end
/-! is_edge -/
abbrev s_is_edge : Stmt := topS 9
abbrev sc_is_edge_N : List Str := ["value"]
theorem sc_is_edge : FnScope sc_is_edge_N ["value"] (defScope s_is_edge) := ⟨rfl, rfl, rfl, by decide +kernel, rfl, by decide +kernel, by decide +kernel⟩
def sp_is_edge (K : PySem.W.Frag) : Sp := fun vs H Q _ => ∃ (v : V) (d : PyData), vs = [v] ∧ Dp K H v d ∧ ∀ H', Same H H' → Q (.bl (isEdge d)) H'
section
variable {P : Program} {w : World} {K : PySem.W.Frag} {mg : Str → Option Value} {bh : Heap}
theorem ok_is_edge {f : Addr} {fd : FuncData} {f_is_number : Addr} {fd_is_number : FuncData} (B : Blt mg) (T : Txt K mg) (R_is_number : Rdy P w K mg bh "is_number" 1 ["value"] (sp_is_number K) f_is_number fd_is_number) (F : Fun K "is_edge" "is_edge" s_is_edge f fd) : FnOk P w K mg bh CX0 2 f fd ["value"] (sp_is_edge K) := by
  refine F.ok sc_is_edge (fun vs H Q E h => ?_) (fun cdv A outer s H vs Q E hr h => ?_)
  · obtain ⟨v, d, rfl, _⟩ := h
    rfl
  · obtain ⟨v, d, rfl, dp, q⟩ := h
    refine ⟨_, (pss_one (ps_ret (pe_and (pe_rdy R_is_number hr (by decide) (by rfl) (pa_cons (pv 0) pa_nil)) (pe_one (pe_or (pe_chain op_le op_le (pe_un un_neg (pe_globI T.g_FAR (by rfl))) (pv 0) (pe_globI T.g_FAR (by rfl))) (pe_one (pe_cmpR op_in_seq (pv 0) (pe_tup (pa_cons (pe_globI T.g_FIRST (by rfl)) (pa_cons (pe_globI T.g_LAST (by rfl)) pa_nil))) (by rfl)))))))), ?_⟩
    refine ⟨v, rfl, v, d, rfl, dp, _, rfl, ?_⟩
    refine ite2 (fun c => ?_) (fun c => ?_)
    · obtain ⟨i, rfl, rfl⟩ := int_of dp c
      · have fin : ∀ b, isEdge (.int i) = b → ∀ H', Same H H' → Q (.bl b) H' := fun b e => e ▸ q
        refine ⟨_, rfl, _, rfl, _, _, rfl, rfl, _, rfl, ?_⟩
        refine ite2 (fun c1 => ?_) (fun c1 => ?_)
        · refine ⟨_, _, rfl, rfl, _, rfl, ?_⟩
          refine ite2 (fun c2 => ?_) (fun c2 => ?_)
          · refine fin true ?_ H (Same.refl H)
            simp only [decide_eq_true_eq] at c1 c2
            simp [isEdge, edgeI, c1, c2]
          · refine ⟨_, rfl, (by show 2 ≤ sizeLine; decide), fun p hp => ?_⟩
            refine ⟨p, _, rfl, .inr (SqT.hp upd_same), rfl, rfl, ?_⟩
            refine fin _ ?_ _ (Same.new hp)
            simp only [decide_eq_true_eq] at c1 c2
            show edgeI i = inV (.int i) [.int (-10000000000000000000000000000000), .int 10000000000000000000000000000000]
            rw [inV2]
            simp [edgeI, c1, c2]
        · refine ⟨_, rfl, iteF ⟨_, rfl, (by show 2 ≤ sizeLine; decide), fun p hp => ?_⟩⟩
          refine ⟨p, _, rfl, .inr (SqT.hp upd_same), rfl, rfl, ?_⟩
          refine fin _ ?_ _ (Same.new hp)
          simp only [decide_eq_true_eq] at c1
          show edgeI i = inV (.int i) [.int (-10000000000000000000000000000000), .int 10000000000000000000000000000000]
          rw [inV2]
          simp [edgeI, c1]
    · rw [isEdge_not c] at q
      exact q H (Same.refl H)
end
/-! is_pair -/
abbrev s_is_pair : Stmt := topS 10
abbrev sc_is_pair_N : List Str := ["value"]
theorem sc_is_pair : FnScope sc_is_pair_N ["value"] (defScope s_is_pair) := ⟨rfl, rfl, rfl, by decide +kernel, rfl, by decide +kernel, by decide +kernel⟩
def sp_is_pair (K : PySem.W.Frag) : Sp := fun vs H Q _ => ∃ (v : V) (d : PyData), vs = [v] ∧ Dp K H v d ∧ ∀ H', Same H H' → Q (.bl (isPair d)) H'
section
variable {P : Program} {w : World} {K : PySem.W.Frag} {mg : Str → Option Value} {bh : Heap}
theorem ok_is_pair {f : Addr} {fd : FuncData} {f_is_edge : Addr} {fd_is_edge : FuncData} (B : Blt mg) (T : Txt K mg) (R_is_edge : Rdy P w K mg bh "is_edge" 2 ["value"] (sp_is_edge K) f_is_edge fd_is_edge) (F : Fun K "is_pair" "is_pair" s_is_pair f fd) : FnOk P w K mg bh CX0 3 f fd ["value"] (sp_is_pair K) := by
  refine F.ok sc_is_pair (fun vs H Q E h => ?_) (fun cdv A outer s H vs Q E hr h => ?_)
  · obtain ⟨v, d, rfl, _⟩ := h
    rfl
  · obtain ⟨v, d, rfl, dp, q⟩ := h
    refine ⟨_, (pss_one (ps_ret (pe_and (pe_callB call_isi (by rfl) B.b_isinstance (by decide +kernel) (pa_cons (pv 0) (pa_cons (pe_bltn (v := .ty "tuple") (by rfl) B.b_tuple (by decide +kernel) rfl) pa_nil))) (pe_and (pe_cmpR op_eq (pe_callB call_len_seq (by rfl) B.b_len (by decide +kernel) (pa_cons (pv 0) pa_nil)) pe_int (nomark _)) (pe_and (pe_rdy R_is_edge hr (by decide) (by rfl) (pa_cons (pe_ix ix_tup (pv 0) pe_int (fun _ _ => rfl)) pa_nil)) (pe_one (pe_rdy R_is_edge hr (by decide) (by rfl) (pa_cons (pe_ix ix_tup (pv 0) pe_int (fun _ _ => rfl)) pa_nil)))))))), ?_⟩
    refine ⟨v, rfl, _, _, _, _, _, rfl, .ty _, dpTy dp, kit_ty (kitTup d), _, rfl, ?_⟩
    refine ite2 (fun c => ?_) (fun c => ?_)
    · obtain ⟨a, xs, ds, rfl, rfl, sq, da⟩ := tup_of dp c
      refine ⟨_, rfl, a, xs, rfl, .inr sq, rfl, _, rfl, ?_⟩
      refine ite2 (fun c1 => ?_) (fun c1 => ?_)
      · have l2 : (xs.length : Int) = 2 := V.int.inj (of_decide_eq_true c1)
        obtain ⟨x, y, d1, d2, rfl, rfl, h1, h2⟩ := dpAll2 da (by omega)
        refine ⟨_, rfl, a, _, 0, x, rfl, rfl, sq, rfl, x, d1, rfl, h1, fun H1 s1 => ?_⟩
        refine ⟨_, rfl, ?_⟩
        refine ite2 (fun c2 => ?_) (fun c2 => ?_)
        · refine ⟨_, rfl, a, _, 1, y, rfl, rfl, sameT s1 sq, rfl, y, d2, rfl, sameD s1 d2 h2, fun H2 s2 => ?_⟩
          have z := q H2 (s1.trans s2)
          have e : isPair (.tuple [d1, d2]) = isEdge d2 := by show (isEdge d1 && isEdge d2) = _; rw [c2, Bool.true_and]
          rw [e] at z
          exact z
        · have z := q H1 s1
          have e : isPair (.tuple [d1, d2]) = false := by show (isEdge d1 && isEdge d2) = _; rw [Bool.eq_false_iff.mpr c2, Bool.false_and]
          rw [e] at z
          exact z
      · have ne : ds.length ≠ 2 := fun z => c1 (decide_eq_true (by rw [dpAll_len da, z]; rfl))
        rw [isPair_len ne] at q
        exact q H (Same.refl H)
    · rw [isPair_not c] at q
      exact q H (Same.refl H)
end
/-! is_stretch -/
abbrev s_is_stretch : Stmt := topS 11
abbrev sc_is_stretch_N : List Str := ["value"]
theorem sc_is_stretch : FnScope sc_is_stretch_N ["value"] (defScope s_is_stretch) := ⟨rfl, rfl, rfl, by decide +kernel, rfl, by decide +kernel, by decide +kernel⟩
def sp_is_stretch (K : PySem.W.Frag) : Sp := fun vs H Q _ => ∃ (v : V) (d : PyData), vs = [v] ∧ Dp K H v d ∧ ∀ H', Same H H' → Q (.bl (isStr d)) H'
section
variable {P : Program} {w : World} {K : PySem.W.Frag} {mg : Str → Option Value} {bh : Heap}
theorem ok_is_stretch {f : Addr} {fd : FuncData} {f_is_pair : Addr} {fd_is_pair : FuncData} (B : Blt mg) (T : Txt K mg) (R_is_pair : Rdy P w K mg bh "is_pair" 3 ["value"] (sp_is_pair K) f_is_pair fd_is_pair) (F : Fun K "is_stretch" "is_stretch" s_is_stretch f fd) : FnOk P w K mg bh CX0 4 f fd ["value"] (sp_is_stretch K) := by
  refine F.ok sc_is_stretch (fun vs H Q E h => ?_) (fun cdv A outer s H vs Q E hr h => ?_)
  · obtain ⟨v, d, rfl, _⟩ := h
    rfl
  · obtain ⟨v, d, rfl, dp, q⟩ := h
    refine ⟨_, (pss_one (ps_ret (pe_and (pe_rdy R_is_pair hr (by decide) (by rfl) (pa_cons (pv 0) pa_nil)) (pe_and (pe_cmpR op_le (pe_ix ix_tup (pv 0) pe_int (fun _ _ => rfl)) (pe_ix ix_tup (pv 0) pe_int (fun _ _ => rfl)) (nomark _)) (pe_and (pe_cmpR op_lt (pe_ix ix_tup (pv 0) pe_int (fun _ _ => rfl)) (pe_globI T.g_LAST (by rfl)) (nomark _)) (pe_one (pe_cmpR op_gt (pe_ix ix_tup (pv 0) pe_int (fun _ _ => rfl)) (pe_globI T.g_FIRST (by rfl)) (nomark _)))))))), ?_⟩
    refine ⟨v, rfl, v, d, rfl, dp, fun H1 s1 => ?_⟩
    refine ⟨_, rfl, ?_⟩
    refine ite2 (fun c => ?_) (fun c => ?_)
    · obtain ⟨a, b, rfl, ea, eb⟩ := pair_of c
      obtain ⟨p, rfl, sq⟩ := dpPr (sameD s1 _ dp)
      have fin : ∀ z, strP (a, b) = z → Q (.bl z) H1 := fun z e => e ▸ q H1 s1
      refine ⟨_, rfl, p, _, 0, _, rfl, rfl, sq, rfl, _, rfl, p, _, 1, _, rfl, rfl, sq, rfl, _, _, rfl, rfl, _, rfl, ?_⟩
      refine ite2 (fun c1 => ?_) (fun c1 => ?_)
      · refine ⟨_, rfl, p, _, 0, _, rfl, rfl, sq, rfl, _, _, rfl, rfl, _, rfl, ?_⟩
        refine ite2 (fun c2 => ?_) (fun c2 => ?_)
        · refine ⟨_, rfl, p, _, 1, _, rfl, rfl, sq, rfl, _, _, rfl, rfl, fin _ ?_⟩
          unfold strP; rw [ea, eb, c1, c2]; rfl
        · refine fin _ ?_
          unfold strP; rw [ea, eb, c1, Bool.eq_false_iff.mpr c2]; rfl
      · refine fin _ ?_
        unfold strP; rw [ea, eb, Bool.eq_false_iff.mpr c1]; rfl
    · rw [isStr_not c] at q
      exact q H1 s1
end
/-! check_ends -/
abbrev s_check_ends : Stmt := topS 12
abbrev sc_check_ends_N : List Str := ["ends"]
theorem sc_check_ends : FnScope sc_check_ends_N ["ends"] (defScope s_check_ends) := ⟨rfl, rfl, rfl, by decide +kernel, rfl, by decide +kernel, by decide +kernel⟩
def sp_check_ends (K : PySem.W.Frag) : Sp := fun vs H Q _ => ∃ z : Bool, vs = [endsV z] ∧ ∀ H', Same H H' → Q .non H'
section
variable {P : Program} {w : World} {K : PySem.W.Frag} {mg : Str → Option Value} {bh : Heap}
theorem ok_check_ends {f : Addr} {fd : FuncData}  (B : Blt mg) (T : Txt K mg)  (F : Fun K "check_ends" "check_ends" s_check_ends f fd) : FnOk P w K mg bh CX0 1 f fd ["ends"] (sp_check_ends K) := by
  refine F.ok sc_check_ends (fun vs H Q E h => ?_) (fun cdv A outer s H vs Q E hr h => ?_)
  · obtain ⟨z, rfl, _⟩ := h
    rfl
  · obtain ⟨z, rfl, q⟩ := h
    refine ⟨_, (pss_one (ps_if (pt_cmpR op_notIn_seq (pv 0) (pe_tup (pa_cons (pe_half T.ends (by rfl)) (pa_cons (pe_shut T.ends (by rfl)) pa_nil))) (by rfl))
      (pss_one ps_never)
      pss_nil)), ?_⟩
    refine ⟨_, rfl, (by show 2 ≤ sizeLine; decide), fun p hp => ?_⟩
    refine ⟨p, _, rfl, .inr (SqT.hp upd_same), (by cases z <;> rfl), rfl, _, rfl, ?_⟩
    have e : (if true = true then !inV (endsV z) [.str "half", .str "shut"] else inV (endsV z) [.str "half", .str "shut"]) = false := by cases z <;> decide +kernel
    rw [e]
    exact iteF (q _ (Same.new hp))
end
/-! check_stretches -/
abbrev s_check_stretches : Stmt := topS 13
abbrev sc_check_stretches_N : List Str := ["spans", "index", "span"]
theorem sc_check_stretches : FnScope sc_check_stretches_N ["spans"] (defScope s_check_stretches) := ⟨rfl, rfl, rfl, by decide +kernel, rfl, by decide +kernel, by decide +kernel⟩
def sp_check_stretches (K : PySem.W.Frag) : Sp := fun vs H Q _ => ∃ (a : Addr) (xs : List V) (ds : List PyData), vs = [.ref a] ∧ Sq K H a xs ∧ DpAll K H xs ds ∧ (∀ d ∈ ds, isStr d = true) ∧ ∀ H', Same H H' → Q .non H'
section
variable {P : Program} {w : World} {K : PySem.W.Frag} {mg : Str → Option Value} {bh : Heap}
theorem ok_check_stretches {f : Addr} {fd : FuncData} {f_is_stretch : Addr} {fd_is_stretch : FuncData} (B : Blt mg) (T : Txt K mg) (R_is_stretch : Rdy P w K mg bh "is_stretch" 4 ["value"] (sp_is_stretch K) f_is_stretch fd_is_stretch) (F : Fun K "check_stretches" "check_stretches" s_check_stretches f fd) : FnOk P w K mg bh CX0 5 f fd ["spans"] (sp_check_stretches K) := by
  refine F.ok sc_check_stretches (fun vs H Q E h => ?_) (fun cdv A outer s H vs Q E hr h => ?_)
  · obtain ⟨a, xs, ds, rfl, _⟩ := h
    rfl
  · obtain ⟨a, xs, ds, rfl, sq, da, hd, q⟩ := h
    refine ⟨_, (pss_one (ps_for PassesOwn.never rfl (pi_en (by rfl) B.b_enumerate (pa_cons (pv 0) pa_nil)) (pg_tup (by rfl) (pgs_cons (pg_name (i := 1) sc_check_stretches.nd rfl (Or.inl rfl)) (pgs_cons (pg_name (i := 2) sc_check_stretches.nd rfl (Or.inl rfl)) pgs_nil)))
      (pss_one (ps_if (pt_not (pt_val (pe_rdy R_is_stretch hr (by decide) (by rfl) (pa_cons (pv 2) pa_nil))))
      (pss_one ps_never)
      pss_nil)))), ?_⟩
    refine ⟨_, rfl, a, xs, rfl, sq, fun J wk => ?_⟩
    refine for_it wk (fun i σ H' => (∃ y z, σ = [some (.ref a), y, z]) ∧ Same H H') ⟨⟨none, none, rfl⟩, Same.refl H⟩ (fun i σ H' _ h => sameK h.2) ?_ ?_
    · rintro i x σ H1 H2 hi ⟨⟨y, z, rfl⟩, s1⟩ ⟨T, x1, x2, rfl, hT, rfl, e1, e2⟩
      obtain ⟨d, hm, dp⟩ := dpAll_get da e2
      have s2 : Same H (upd H1 T (.tup [x1, x2])) := s1.trans (Same.new hT)
      refine ⟨T, _, rfl, SqT.hp upd_same, rfl, x1, _, rfl, x2, _, rfl, rfl, ?_⟩
      refine ⟨x2, rfl, x2, d, rfl, sameD s2 d dp, fun H3 s3 => ⟨_, rfl, ?_⟩⟩
      rw [hd d hm]
      exact iteF ⟨⟨_, _, rfl⟩, s2.trans s3⟩
    · rintro σ H' ⟨⟨y, z, rfl⟩, s1⟩
      exact q H' s1
end
/-! is_empty -/
abbrev s_is_empty : Stmt := topS 14
abbrev sc_is_empty_N : List Str := ["pair", "ends", "begin", "end"]
theorem sc_is_empty : FnScope sc_is_empty_N ["pair", "ends"] (defScope s_is_empty) := ⟨rfl, rfl, rfl, by decide +kernel, rfl, by decide +kernel, by decide +kernel⟩
def sp_is_empty (K : PySem.W.Frag) : Sp := fun vs H Q _ => ∃ (t : Addr) (b e : Int) (z : Bool), vs = [.ref t, endsV z] ∧ SqT K H t [.int b, .int e] ∧ ∀ H', Same H H' → Q (.bl (emp z (b, e))) H'
section
variable {P : Program} {w : World} {K : PySem.W.Frag} {mg : Str → Option Value} {bh : Heap}
theorem ok_is_empty {f : Addr} {fd : FuncData} {f_check_ends : Addr} {fd_check_ends : FuncData} (B : Blt mg) (T : Txt K mg) (R_check_ends : Rdy P w K mg bh "check_ends" 1 ["ends"] (sp_check_ends K) f_check_ends fd_check_ends) (F : FunD K "is_empty" "is_empty" (defArgs s_is_empty) (defBody s_is_empty) (defScope s_is_empty) [.str "half"] [] f fd) : FnOk P w K mg bh CX0 2 f fd ["pair", "ends"] (sp_is_empty K) := by
  refine okD F sc_is_empty (fun vs H Q E h => ?_) (fun cdv A outer s H vs Q E hr h => ?_)
  · obtain ⟨t, b, e, z, rfl, _⟩ := h
    rfl
  · obtain ⟨t, b, e, z, rfl, sq, q⟩ := h
    refine ⟨_, (pss_cons (ps_expr (pe_rdy R_check_ends hr (by decide) (by rfl) (pa_cons (pv 1) pa_nil)))
      (pss_cons (ps_asg (pv 0) (pg_tup (by rfl) (pgs_cons (pg_name (i := 2) sc_is_empty.nd rfl (Or.inl rfl)) (pgs_cons (pg_name (i := 3) sc_is_empty.nd rfl (Or.inl rfl)) pgs_nil))))
      (pss_cons (ps_if (pt_cmpR op_eq (pv 1) (pe_shut T.ends (by rfl)) (nomark _))
      (pss_one (ps_ret (pe_cmpR op_gt (pv 2) (pv 3) (nomark _))))
      pss_nil)
      (pss_one (ps_ret (pe_cmpR op_ge (pv 2) (pv 3) (nomark _))))))), ?_⟩
    refine ⟨_, rfl, z, rfl, fun H1 s1 => ?_⟩
    refine ⟨_, rfl, t, _, rfl, sameT s1 sq, rfl, _, _, rfl, _, _, rfl, rfl, ?_⟩
    refine ⟨_, rfl, endsV_scal z, _, rfl, ?_⟩
    rw [endsV_shut]
    have z1 := q H1 s1
    cases z with
    | true => exact iteT ⟨_, rfl, _, rfl, _, _, rfl, rfl, z1⟩
    | false => exact iteF ⟨_, rfl, _, rfl, _, _, rfl, rfl, z1⟩
end
/-! join_sorted -/
abbrev s_join_sorted : Stmt := topS 15
abbrev sc_join_sorted_N : List Str := ["spans", "rows", "low", "high", "begin", "end"]
theorem sc_join_sorted : FnScope sc_join_sorted_N ["spans"] (defScope s_join_sorted) := ⟨rfl, rfl, rfl, by decide +kernel, rfl, by decide +kernel, by decide +kernel⟩
def sp_join_sorted (K : PySem.W.Frag) : Sp := fun vs H Q _ => ∃ (a : Addr) (ts : List Addr) (ps : List Pr), vs = [.ref a] ∧ SqL K H a (ts.map V.ref) ∧ Pd H ts ps ∧ ps.length ≤ 1000 ∧ ∀ r us H', H r = none → H' r = some (.lst (us.map V.ref)) → Pd H' us (joinM ps) → Same H H' → Q (.ref r) H'
section
variable {P : Program} {w : World} {K : PySem.W.Frag} {mg : Str → Option Value} {bh : Heap}
theorem ok_join_sorted {f : Addr} {fd : FuncData}  (B : Blt mg) (T : Txt K mg)  (F : Fun K "join_sorted" "join_sorted" s_join_sorted f fd) : FnOk P w K mg bh CX0 1 f fd ["spans"] (sp_join_sorted K) := by
  refine F.ok sc_join_sorted (fun vs H Q E h => ?_) (fun cdv A outer s H vs Q E hr h => ?_)
  · obtain ⟨a, ts, ps, rfl, _⟩ := h
    rfl
  · obtain ⟨a, ts, ps, rfl, sq, pd, hlen, q⟩ := h
    refine ⟨_, (pss_cons (ps_if (pt_not (pt_truth (pv 0) (by intro _; rfl)))
      (pss_one (ps_ret (pe_lst pa_nil)))
      pss_nil)
      (pss_cons (ps_set (i := 1) sc_join_sorted.nd rfl (Or.inl rfl) (pe_lst pa_nil))
      (pss_cons (ps_asg (pe_ix ix_list (pv 0) pe_int (fun _ _ => rfl)) (pg_tup (by rfl) (pgs_cons (pg_name (i := 2) sc_join_sorted.nd rfl (Or.inl rfl)) (pgs_cons (pg_name (i := 3) sc_join_sorted.nd rfl (Or.inl rfl)) pgs_nil))))
      (pss_cons (ps_for PassesOwn.never rfl (pi_list (pv 0)) (pg_tup (by rfl) (pgs_cons (pg_name (i := 4) sc_join_sorted.nd rfl (Or.inl rfl)) (pgs_cons (pg_name (i := 5) sc_join_sorted.nd rfl (Or.inl rfl)) pgs_nil)))
      (pss_one (ps_if (pt_cmpR op_gt (pv 4) (pv 3) (nomark _))
      (pss_cons (ps_expr (pe_bm PySem.F.plainAttrs_list PySem.F.slot_list_append PySem.F.type_list_append mt_append (pv 1) (pa_cons (pe_tup (pa_cons (pv 2) (pa_cons (pv 3) pa_nil))) pa_nil)))
      (pss_one (ps_par (i := 2) (j := 3) (by rfl) sc_join_sorted.nd rfl rfl (by decide) rfl rfl (pa_cons (pv 4) (pa_cons (pv 5) pa_nil)) (by rfl))))
      (pss_one (ps_set (i := 3) sc_join_sorted.nd rfl (Or.inl rfl) (pe_callB (call_max2 rfl) (by rfl) B.b_max (by decide +kernel) (pa_cons (pv 3) (pa_cons (pv 5) pa_nil))))))))
      (pss_cons (ps_expr (pe_bm PySem.F.plainAttrs_list PySem.F.slot_list_append PySem.F.type_list_append mt_append (pv 1) (pa_cons (pe_tup (pa_cons (pv 2) (pa_cons (pv 3) pa_nil))) pa_nil)))
      (pss_one (ps_ret (pv 1)))))))), ?_⟩
    refine ⟨_, rfl, _, .inl ⟨_, sq, rfl⟩, ?_⟩
    cases ts with
    | nil =>
      cases ps with
      | cons _ _ => exact pd.elim
      | nil =>
        refine iteT ⟨Nat.zero_le _, fun r hr' => ?_⟩
        exact q r [] _ hr' upd_same trivial (Same.new hr')
    | cons t0 ts =>
      cases ps with
      | nil => exact pd.elim
      | cons p0 ps =>
        refine iteF ⟨Nat.zero_le _, fun r nr => ?_⟩
        have sr : Same H (upd H r (.lst [])) := Same.new nr
        refine ⟨_, rfl, a, _, 0, _, rfl, rfl, sr.seq sq, atI_nat (j := 0) rfl, t0, _, rfl, SqT.hp (sr _ _ pd.1), rfl, _, _, rfl, _, _, rfl, rfl, ?_⟩
        refine ⟨_, rfl, a, rfl, ⟨_, sr.seq sq⟩, ?_⟩
        refine for_list (K := K) (a := a) (xs := (t0 :: ts).map V.ref) (fun i σ H' => ∃ y4 y5 us, σ = [some (.ref a), some (.ref r), some (.int (((p0 :: ps).take i).foldl stepJ ([], p0)).2.1), some (.int (((p0 :: ps).take i).foldl stepJ ([], p0)).2.2), y4, y5] ∧ Same H H' ∧ H' r = some (.lst (us.map V.ref)) ∧ Pd H' us (((p0 :: ps).take i).foldl stepJ ([], p0)).1)
          ⟨none, none, [], rfl, sr, upd_same, trivial⟩ (fun i σ H' _ h => ?_) ?_ ?_
        · obtain ⟨_, _, _, _, s1, _⟩ := h
          exact s1.seq sq
        · rintro i x σ H1 hx ⟨y4, y5, us, rfl, s1, hr1, pu⟩
          obtain ⟨t, ht, rfl⟩ := map_get hx
          obtain ⟨p, hp, et⟩ := Pd.get pd ht
          have e := take_more hp
          have ll := stepJ_len0 ((p0 :: ps).take i) p0
          have li : ((p0 :: ps).take i).length ≤ 1000 := Nat.le_trans (List.length_take_le' ..) hlen
          have lu := pu.len
          generalize hS : ((p0 :: ps).take i).foldl stepJ ([], p0) = S at *
          have e2 : ((p0 :: ps).take (i + 1)).foldl stepJ ([], p0) = stepJ S p := by rw [e, List.foldl_append, hS]; rfl
          refine ⟨t, _, rfl, SqT.hp (s1 _ _ et), rfl, _, _, rfl, _, _, rfl, rfl, ?_⟩
          refine ⟨_, rfl, _, rfl, _, _, rfl, rfl, _, rfl, ?_⟩
          rw [e2]
          refine ite2 (fun c => ?_) (fun c => ?_)
          · have c' : S.2.2 < p.1 := of_decide_eq_true c
            have ej : stepJ S p = (S.1 ++ [S.2], p) := if_pos c'
            rw [ej]
            refine ⟨_, rfl, .inl ⟨rfl, _, SqL.hp hr1⟩, _, rfl, _, rfl, (by show 2 ≤ sizeLine; decide), fun T nT => ?_⟩
            have nrT : r ≠ T := ne_of_none hr1 nT
            refine ⟨r, _, _, rfl, rfl, (upd_ne nrT).trans hr1, ?_, ?_⟩
            · rw [List.length_map]
              exact small1000 (by omega)
            · refine ⟨_, rfl, _, rfl, _, _, rfl, ?_⟩
              refine ⟨_, _, us ++ [T], rfl, ?_, ?_, ?_⟩
              · intro b o hb
                rw [upd_ne (ne_of_none hb nr), upd_ne (ne_of_none (s1 _ _ hb) nT)]
                exact s1 _ _ hb
              · rw [upd_same, List.map_append]; rfl
              · have kp : Kp r H1 (upd (upd H1 T (.tup [.int S.2.1, .int S.2.2])) r (.lst (us.map V.ref ++ [.ref T]))) := (Kp.new nT).trans Kp.at_
                refine Pd.app (Pd.kp kp (fun xs z => by rw [hr1] at z; cases z) pu) ⟨?_, trivial⟩
                rw [upd_ne (Ne.symm nrT), upd_same]
          · have c' : ¬ S.2.2 < p.1 := fun z => c (decide_eq_true z)
            have ej : stepJ S p = (S.1, (S.2.1, if S.2.2 < p.2 then p.2 else S.2.2)) := if_neg c'
            rw [ej]
            exact ⟨_, rfl, _, rfl, _, _, rfl, _, _, us, rfl, s1, hr1, pu⟩
        · rintro σ H1 ⟨y4, y5, us, rfl, s1, hr1, pu⟩
          have ef : (p0 :: ps).take ((t0 :: ts).map V.ref).length = p0 :: ps := List.take_of_length_le (by rw [List.length_map, pd.len]; exact Nat.le_refl _)
          rw [ef] at pu ⊢
          have lu := pu.len
          have ll := stepJ_len0 (p0 :: ps) p0
          have ej : joinM (p0 :: ps) = ((p0 :: ps).foldl stepJ ([], p0)).1 ++ [((p0 :: ps).foldl stepJ ([], p0)).2] := (joinF_eq (p0 :: ps)).symm
          generalize (p0 :: ps).foldl stepJ ([], p0) = S at *
          refine ⟨_, rfl, .inl ⟨rfl, _, SqL.hp hr1⟩, _, rfl, _, rfl, (by show 2 ≤ sizeLine; decide), fun T nT => ?_⟩
          have nrT : r ≠ T := ne_of_none hr1 nT
          refine ⟨r, _, _, rfl, rfl, (upd_ne nrT).trans hr1, ?_, ?_⟩
          · rw [List.length_map]
            exact small1000 (by omega)
          · refine ⟨_, rfl, q r (us ++ [T]) _ nr ?_ ?_ ?_⟩
            · rw [upd_same, List.map_append]; rfl
            · rw [ej]
              have kp : Kp r H1 (upd (upd H1 T (.tup [.int S.2.1, .int S.2.2])) r (.lst (us.map V.ref ++ [.ref T]))) := (Kp.new nT).trans Kp.at_
              refine Pd.app (Pd.kp kp (fun xs z => by rw [hr1] at z; cases z) pu) ⟨?_, trivial⟩
              rw [upd_ne (Ne.symm nrT), upd_same]
            · intro b o hb
              rw [upd_ne (ne_of_none hb nr), upd_ne (ne_of_none (s1 _ _ hb) nT)]
              exact s1 _ _ hb
end
/-! union -/
abbrev s_union : Stmt := topS 16
abbrev sc_union_N : List Str := ["spans", "ends", "span"]
theorem sc_union : FnScope sc_union_N ["spans", "ends"] (defScope s_union) := ⟨rfl, rfl, rfl, by decide +kernel, rfl, by decide +kernel, by decide +kernel⟩
def sp_union (K : PySem.W.Frag) : Sp := fun vs H Q _ => ∃ (a : Addr) (ts : List Addr) (ps : List Pr) (z : Bool), vs = [.ref a, endsV z] ∧ Sq K H a (ts.map V.ref) ∧ Pd H ts ps ∧ (∀ p ∈ ps, strP p = true) ∧ ps.length ≤ 1000 ∧ ∀ r us H', H r = none → H' r = some (.lst (us.map V.ref)) → Pd H' us (unionM z ps) → Same H H' → Q (.ref r) H'
section
variable {P : Program} {w : World} {K : PySem.W.Frag} {mg : Str → Option Value} {bh : Heap}
theorem ok_union {f : Addr} {fd : FuncData} {f_check_stretches : Addr} {fd_check_stretches : FuncData} {f_check_ends : Addr} {fd_check_ends : FuncData} {f_join_sorted : Addr} {fd_join_sorted : FuncData} {f_is_empty : Addr} {fd_is_empty : FuncData} (B : Blt mg) (T : Txt K mg) (R_check_stretches : Rdy P w K mg bh "check_stretches" 5 ["spans"] (sp_check_stretches K) f_check_stretches fd_check_stretches) (R_check_ends : Rdy P w K mg bh "check_ends" 1 ["ends"] (sp_check_ends K) f_check_ends fd_check_ends) (R_join_sorted : Rdy P w K mg bh "join_sorted" 1 ["spans"] (sp_join_sorted K) f_join_sorted fd_join_sorted) (R_is_empty : RdyD P w K mg bh "is_empty" 2 ["pair", "ends"] [.str "half"] (sp_is_empty K) f_is_empty fd_is_empty) (F : FunD K "union" "union" (defArgs s_union) (defBody s_union) (defScope s_union) [.str "half"] [] f fd) : FnOk P w K mg bh CX0 6 f fd ["spans", "ends"] (sp_union K) := by
  refine okD F sc_union (fun vs H Q E h => ?_) (fun cdv A outer s H vs Q E hr h => ?_)
  · obtain ⟨a, ts, ps, z, rfl, _⟩ := h
    rfl
  · obtain ⟨a, ts, ps, z, rfl, sq, pd, hst, hlen, q⟩ := h
    refine ⟨_, (pss_cons (ps_expr (pe_rdy R_check_stretches hr (by decide) (by rfl) (pa_cons (pv 0) pa_nil)))
      (pss_cons (ps_expr (pe_rdy R_check_ends hr (by decide) (by rfl) (pa_cons (pv 1) pa_nil)))
      (pss_one (ps_ret (pe_rdy R_join_sorted hr (by decide) (by rfl) (pa_cons (pe_callB cr_sortedPO (by rfl) B.b_sorted (by decide +kernel) (pa_cons (pe_lc (own := [("span", 2)]) (by rfl) sc_union.nd (pi_sq (pv 0)) (blkOk_by (own := [("span", 2)]) (N := sc_union_N) (sc := defScope s_union) (by decide +kernel)) (fun _ _ _ _ _ => (pg_name (i := 2) sc_union.nd rfl (Or.inl rfl))) (fun _ _ _ _ _ => (pts_one (pt_not (pt_val (pe_rdyD R_is_empty hr (by decide) (by rfl) (pa_cons (pv 2) (pa_cons (pv 1) pa_nil))))))) (fun _ _ _ _ _ => (pv 2))) pa_nil)) pa_nil)))))), ?_⟩
    refine ⟨_, rfl, a, _, _, rfl, sq, pd.dp, ?_, fun H1 s1 => ?_⟩
    · intro d hd
      obtain ⟨p, hp, rfl⟩ := List.mem_map.mp hd
      exact hst p hp
    refine ⟨_, rfl, z, rfl, fun H2 s2 => ?_⟩
    have s12 := s1.trans s2
    refine ⟨_, rfl, a, _, rfl, sameQ s12 sq, fun J wk D nD => ?_⟩
    refine lc_it wk (fun i H' => ∃ us, Same H2 H' ∧ H' D = some (.lst (us.map V.ref)) ∧ Pd H' us ((ps.take i).filter fun p => !emp z p)) ⟨[], Same.new nD, upd_same, trivial⟩ (fun i H' _ h => sameK h.choose_spec.1) ?_ ?_
    · rintro i x H3 H4 hi ⟨us, ss, hD, pu⟩ ⟨rfl, hx⟩
      obtain ⟨t, ht, rfl⟩ := map_get hx
      obtain ⟨p, hp, et⟩ := Pd.get pd ht
      have et3 := (s12.trans ss) _ _ et
      have lu := pu.len
      have lf : ((ps.take i).filter fun p => !emp z p).length ≤ ps.length := Nat.le_trans (List.length_filter_le ..) (List.length_take_le' ..)
      refine ⟨rfl, ?_⟩
      refine ⟨_, rfl, _, rfl, t, p.1, p.2, z, rfl, SqT.hp et3, fun H5 s5 => ⟨_, rfl, ?_⟩⟩
      have et5 := s5 _ _ et3
      rw [take_more hp, List.filter_append]
      refine ite2 (fun c => ?_) (fun c => ?_)
      · have nDt : D ≠ t := ne_of (s5 _ _ hD) et5 (fun z => nomatch z)
        refine ⟨_, rfl, us.map V.ref, s5 _ _ hD, ?_, us ++ [t], ?_, ?_, ?_⟩
        · rw [List.length_map]
          exact small1000 (by omega)
        · intro b o hb
          rw [upd_ne (ne_of_none hb nD)]
          exact s5 _ _ (ss _ _ hb)
        · rw [upd_same, List.map_append]; rfl
        · have kp : Kp D H5 (upd H5 D (.lst (us.map V.ref ++ [.ref t]))) := Kp.at_
          rw [show List.filter (fun p => !emp z p) [p] = [p] from List.filter_cons_of_pos (p := fun p => !emp z p) c]
          refine Pd.app (Pd.kp kp (fun xs z => by rw [s5 _ _ hD] at z; cases z) (pu.same s5)) ⟨?_, trivial⟩
          rw [upd_ne (Ne.symm nDt)]
          exact et5
      · rw [show List.filter (fun p => !emp z p) [p] = [] from List.filter_cons_of_neg (p := fun p => !emp z p) c, List.append_nil]
        exact ⟨us, ss.trans s5, s5 _ _ hD, pu.same s5⟩
    · rintro H3 ⟨us, ss, hD, pu⟩
      rw [List.length_map, pd.len, List.take_length] at pu
      refine ⟨D, _, kOf H3, rfl, SqL.hp hD, pu.all, fun ys m hs hb nm => ?_⟩
      obtain ⟨vs, rfl, pv'⟩ := sorted_refs pu hs hb
      have sm : Same H3 (upd H3 m (.lst (vs.map V.ref))) := Same.new nm
      have s3 := s12.trans ss
      refine ⟨m, vs, _, rfl, SqL.hp upd_same, pv'.same sm, ?_, fun r ws H5 nr hr5 pw s5 => ?_⟩
      · have : (srt (ps.filter fun p => !emp z p)).length ≤ ps.length := by
          rw [(srt_perm _).length_eq]
          exact List.length_filter_le ..
        omega
      · exact q r ws H5 ((s3.trans sm).free nr) hr5 pw ((s3.trans sm).trans s5)
end
/-! in_one_form -/
abbrev s_in_one_form : Stmt := topS 17
abbrev sc_in_one_form_N : List Str := ["spans", "ends"]
theorem sc_in_one_form : FnScope sc_in_one_form_N ["spans", "ends"] (defScope s_in_one_form) := ⟨rfl, rfl, rfl, by decide +kernel, rfl, by decide +kernel, by decide +kernel⟩
def sp_in_one_form (K : PySem.W.Frag) : Sp := fun vs H Q _ => ∃ (a : Addr) (ts : List Addr) (ps : List Pr) (z : Bool), vs = [.ref a, endsV z] ∧ Sq K H a (ts.map V.ref) ∧ Pd H ts ps ∧ (∀ p ∈ ps, strP p = true) ∧ ps.length ≤ 1000 ∧ ∀ H', Same H H' → Q (.bl (oneF z ps)) H'
section
variable {P : Program} {w : World} {K : PySem.W.Frag} {mg : Str → Option Value} {bh : Heap}
theorem ok_in_one_form {f : Addr} {fd : FuncData} {f_union : Addr} {fd_union : FuncData} (B : Blt mg) (T : Txt K mg) (R_union : RdyD P w K mg bh "union" 6 ["spans", "ends"] [.str "half"] (sp_union K) f_union fd_union) (F : FunD K "in_one_form" "in_one_form" (defArgs s_in_one_form) (defBody s_in_one_form) (defScope s_in_one_form) [.str "half"] [] f fd) : FnOk P w K mg bh CX0 7 f fd ["spans", "ends"] (sp_in_one_form K) := by
  refine okD F sc_in_one_form (fun vs H Q E h => ?_) (fun cdv A outer s H vs Q E hr h => ?_)
  · obtain ⟨a, ts, ps, z, rfl, _⟩ := h
    rfl
  · obtain ⟨a, ts, ps, z, rfl, sq, pd, hst, hlen, q⟩ := h
    refine ⟨_, (pss_one (ps_ret (pe_cmpR (op_eqD hr.units) (pe_rdyD R_union hr (by decide) (by rfl) (pa_cons (pv 0) (pa_cons (pv 1) pa_nil))) (pe_callTy call_list_of (by rfl) B.b_list (by decide +kernel) (pa_cons (pv 0) pa_nil)) (nomark _)))), ?_⟩
    refine ⟨_, rfl, _, rfl, a, ts, ps, z, rfl, sq, pd, hst, hlen, fun r us H1 nr hr1 pu s1 => ?_⟩
    refine ⟨_, rfl, a, _, rfl, sameQ s1 sq, fun l nl => ?_⟩
    have sl : Same H1 (upd H1 l (.lst (ts.map V.ref))) := Same.new nl
    refine ⟨.list ((unionM z ps).map prD), .list (ps.map prD), .lst (SqL.hp (sl _ _ hr1)) (pu.same sl).dp, .lst (SqL.hp upd_same) (pd.same (s1.trans sl)).dp, shapedPs _, shapedPs _, ?_⟩
    have e : PyData.eqv (.list ((unionM z ps).map prD)) (.list (ps.map prD)) = oneF z ps := by
      rw [eqvPs, Bool.eq_iff_iff, decide_eq_true_eq]
      exact union_fix fun p hp => strP_le (hst p hp)
    rw [e]
    exact q _ (s1.trans sl)
end
/-! _law_bag -/
abbrev s_l_bag : Stmt := topS 19
abbrev sc_l_bag_N : List Str := ["_law_script", "_law_at", "_law_cell"]
theorem sc_l_bag : FnScope sc_l_bag_N ["_law_script", "_law_at"] (defScope s_l_bag) := ⟨rfl, rfl, rfl, by decide +kernel, rfl, by decide +kernel, by decide +kernel⟩
def sp_l_bag (K : PySem.W.Frag) : Sp := fun vs H Q _ => ∃ (a : Addr) (ns : List Int) (i : Int), vs = [.ref a, .int i] ∧ SqL K H a (ns.map V.int) ∧ 0 ≤ i ∧ i ≤ 63 ∧ ∀ p H', H p = none → BagAt H' p 0 → But p H H' → Q (.ref p) H'
section
variable {P : Program} {w : World} {K : PySem.W.Frag} {mg : Str → Option Value} {bh : Heap}
theorem ok_l_bag {f : Addr} {fd : FuncData}  (B : Blt mg) (T : Txt K mg)  (F : Fun K "_law_bag" "_law_bag" s_l_bag f fd) : FnOk P w K mg bh CX0 1 f fd ["_law_script", "_law_at"] (sp_l_bag K) := by
  refine F.ok sc_l_bag (fun vs H Q E h => ?_) (fun cdv A outer s H vs Q E hr h => ?_)
  · obtain ⟨a, ns, i, rfl, _⟩ := h
    rfl
  · obtain ⟨a, ns, i, rfl, sq, i0, i63, q⟩ := h
    refine ⟨_, (pss_cons (ps_set (i := 2) sc_l_bag.nd rfl (Or.inl rfl) (pe_ifExp (pt_cmpR op_lt (pv 1) (pe_callB call_len_seq (by rfl) B.b_len (by decide +kernel) (pa_cons (pv 0) pa_nil)) (nomark _)) (pe_ix ix_list (pv 0) (pv 1) (fun _ _ => rfl)) pe_int))
      (pss_one (ps_ret (pe_lst (pa_cons (pe_ifExp (pt_cmpR op_ge (pe_callB call_abs (by rfl) B.b_abs (by decide +kernel) (pa_cons (pv 2) pa_nil)) (pe_op op_pow pe_int pe_int) (nomark _)) (pe_callB call_abs (by rfl) B.b_abs (by decide +kernel) (pa_cons (pv 2) pa_nil)) pe_int) (pa_cons (pe_op op_mod (pe_callTy call_int1 (by rfl) B.b_int (by decide +kernel) (pa_cons (pv 2) pa_nil)) pe_int) (pa_cons (pe_op op_add (pe_op op_mul pe_int (pv 1)) pe_int) (pa_cons pe_int pa_nil)))))))), ?_⟩
    refine ⟨_, rfl, _, rfl, a, _, rfl, .inl sq, _, _, rfl, rfl, _, rfl, ?_⟩
    have fin : ∀ (n b0 : Int) (p : Addr), 0 ≤ b0 → H p = none → Q (.ref p) (upd H p (.lst [.int b0, .int (n % 2305843009213693951), .int (6151 * i + 389), .int 0])) := fun n b0 p h0 np =>
      q p _ np ⟨b0, n % 2305843009213693951, 6151 * i + 389, 0, upd_same, h0, by omega, by omega, by omega, by omega, by omega, by omega⟩ fun b nb => upd_ne nb
    have ab : ∀ n : Int, 0 ≤ (if n < 0 then -n else n) := fun n => by split <;> omega
    refine ite2 (fun c => ?_) (fun c => ?_)
    · have ci : i < (ns.map V.int).length := of_decide_eq_true c
      obtain ⟨n, hn⟩ : ∃ n, (ns.map V.int)[i.toNat]? = some (.int n) := by
        rw [List.length_map] at ci
        have : i.toNat < ns.length := by omega
        exact ⟨ns[i.toNat], by rw [List.getElem?_map, List.getElem?_eq_getElem this]; rfl⟩
      refine ⟨_, rfl, _, rfl, a, _, i, .int n, rfl, rfl, sq, at_of (by omega) hn, ?_⟩
      walk_at "vc"
      · intro p np
        exact fin n _ p (ab n) np
      · intro p np
        exact fin n _ p (Int.le_refl 0) np
    · walk_at "vc"
      all_goals (intro p np; first | exact fin 0 _ p (ab 0) np | exact fin 0 _ p (Int.le_refl 0) np)
end
/-! _law_take -/
abbrev s_l_take : Stmt := topS 20
abbrev sc_l_take_N : List Str := ["_law_bag_here", "_law_many", "_law_digit", "_law_mixed"]
theorem sc_l_take : FnScope sc_l_take_N ["_law_bag_here", "_law_many"] (defScope s_l_take) := ⟨rfl, rfl, rfl, by decide +kernel, rfl, by decide +kernel, by decide +kernel⟩
def sp_l_take (K : PySem.W.Frag) : Sp := fun vs H Q _ => ∃ (p : Addr) (m c : Int), vs = [.ref p, .int m] ∧ BagAt H p c ∧ c ≤ 1073741824 ∧ 0 < m ∧ m ≤ 1000000000000000000000000000000000000000000000 ∧ ∀ r H', 0 ≤ r → r < m → BagAt H' p (c + 1) → But p H H' → Q (.int r) H'
section
variable {P : Program} {w : World} {K : PySem.W.Frag} {mg : Str → Option Value} {bh : Heap}
theorem ok_l_take {f : Addr} {fd : FuncData}  (B : Blt mg) (T : Txt K mg)  (F : Fun K "_law_take" "_law_take" s_l_take f fd) : FnOk P w K mg bh CX0 1 f fd ["_law_bag_here", "_law_many"] (sp_l_take K) := by
  refine F.ok sc_l_take (fun vs H Q E h => ?_) (fun cdv A outer s H vs Q E hr h => ?_)
  · obtain ⟨p, m, c, rfl, _⟩ := h
    rfl
  · obtain ⟨p, m, c, rfl, ⟨b0, b1, b2, b3, hp, h0, h1, h1', h2, h2', h3, h3'⟩, hc, hm, hm', q⟩ := h
    refine ⟨_, (pss_cons (ps_if (pt_cmpR op_gt (pe_ix ix_list (pv 0) pe_int (fun _ _ => rfl)) pe_int (nomark _))
      (pss_cons (ps_set (i := 2) sc_l_take.nd rfl (Or.inl rfl) (pe_op op_mod (pe_callTy call_int1 (by rfl) B.b_int (by decide +kernel) (pa_cons (pe_ix ix_list (pv 0) pe_int (fun _ _ => rfl)) pa_nil)) (pv 1)))
      (pss_cons (ps_asg (pe_op op_fdivW (pe_ix ix_list (pv 0) pe_int (fun _ _ => rfl)) (pv 1)) (pg_sub (pv 0) pe_int set_list))
      (pss_one (ps_ret (pv 2)))))
      pss_nil)
      (pss_cons (ps_asg (pe_op op_add (pe_ix ix_list (pv 0) pe_int (fun _ _ => rfl)) pe_int) (pg_sub (pv 0) pe_int set_list))
      (pss_cons (ps_set (i := 3) sc_l_take.nd rfl (Or.inl rfl) (pe_op op_mod (pe_callTy call_int1 (by rfl) B.b_int (by decide +kernel) (pa_cons (pe_op op_pow (pe_op op_add (pe_op op_add (pe_ix ix_list (pv 0) pe_int (fun _ _ => rfl)) (pe_op op_mul pe_int (pe_ix ix_list (pv 0) pe_int (fun _ _ => rfl)))) (pe_ix ix_list (pv 0) pe_int (fun _ _ => rfl))) pe_int) pa_nil)) pe_int))
      (pss_cons (ps_set (i := 3) sc_l_take.nd rfl (Or.inl rfl) (pe_op op_mod (pe_callTy call_int1 (by rfl) B.b_int (by decide +kernel) (pa_cons (pe_op op_pow (pe_op op_add (pv 3) (pe_op op_mul pe_int (pe_ix ix_list (pv 0) pe_int (fun _ _ => rfl)))) pe_int) pa_nil)) pe_int))
      (pss_one (ps_ret (pe_op op_mod (pe_callTy call_int1 (by rfl) B.b_int (by decide +kernel) (pa_cons (pe_op op_fdivW (pv 3) pe_int) pa_nil)) (pv 1)))))))), ?_⟩
    walk_at "vc"
    · exact q _ _ (Int.emod_nonneg _ (by omega)) (Int.emod_lt_of_pos _ hm) ⟨_, b1, b2, b3, upd_same, Int.ediv_nonneg h0 (by omega), h1, h1', h2, h2', h3, by omega⟩ fun b n => upd_ne n
    · exact q _ _ (Int.emod_nonneg _ (by omega)) (Int.emod_lt_of_pos _ hm) ⟨b0, b1, b2, _, upd_same, h0, h1, h1', h2, h2', by omega, by omega⟩ fun b n => upd_ne n
end
/-! _law_edge -/
abbrev s_l_edge : Stmt := topS 21
abbrev sc_l_edge_N : List Str := ["_law_bag_here", "_law_kind"]
theorem sc_l_edge : FnScope sc_l_edge_N ["_law_bag_here"] (defScope s_l_edge) := ⟨rfl, rfl, rfl, by decide +kernel, rfl, by decide +kernel, by decide +kernel⟩
def sp_l_edge (K : PySem.W.Frag) : Sp := fun vs H Q _ => ∃ (p : Addr) (c : Int), vs = [.ref p] ∧ BagAt H p c ∧ c ≤ 1000000 ∧ ∀ r H', -1000000000000000000000000000000 ≤ r → r ≤ 1000000000000000000000000000000 → BagAt H' p (c + 3) → But p H H' → Q (.int r) H'
section
variable {P : Program} {w : World} {K : PySem.W.Frag} {mg : Str → Option Value} {bh : Heap}
theorem ok_l_edge {f : Addr} {fd : FuncData} {f_l_take : Addr} {fd_l_take : FuncData} (B : Blt mg) (T : Txt K mg) (R_l_take : Rdy P w K mg bh "_law_take" 1 ["_law_bag_here", "_law_many"] (sp_l_take K) f_l_take fd_l_take) (F : Fun K "_law_edge" "_law_edge" s_l_edge f fd) : FnOk P w K mg bh CX0 2 f fd ["_law_bag_here"] (sp_l_edge K) := by
  refine F.ok sc_l_edge (fun vs H Q E h => ?_) (fun cdv A outer s H vs Q E hr h => ?_)
  · obtain ⟨p, c, rfl, _⟩ := h
    rfl
  · obtain ⟨p, c, rfl, bg, hc, q⟩ := h
    refine ⟨_, (pss_cons (ps_set (i := 1) sc_l_edge.nd rfl (Or.inl rfl) (pe_rdy R_l_take hr (by decide) (by rfl) (pa_cons (pv 0) (pa_cons pe_int pa_nil))))
      (pss_cons (ps_if (pt_cmpR op_eq (pv 1) pe_int (nomark _))
      (pss_one (ps_ret (pe_op op_sub (pe_rdy R_l_take hr (by decide) (by rfl) (pa_cons (pv 0) (pa_cons (pe_op op_add (pe_op op_mul pe_int (pe_op op_pow pe_int pe_int)) pe_int) pa_nil))) (pe_op op_pow pe_int pe_int))))
      pss_nil)
      (pss_cons (ps_if (pt_cmpR op_eq (pv 1) pe_int (nomark _))
      (pss_one (ps_ret (pe_op op_mul (pe_op op_sub (pe_op op_pow pe_int pe_int) (pe_rdy R_l_take hr (by decide) (by rfl) (pa_cons (pv 0) (pa_cons pe_int pa_nil)))) (pe_op op_sub pe_int (pe_op op_mul pe_int (pe_rdy R_l_take hr (by decide) (by rfl) (pa_cons (pv 0) (pa_cons pe_int pa_nil))))))))
      pss_nil)
      (pss_one (ps_ret (pe_op op_sub (pe_rdy R_l_take hr (by decide) (by rfl) (pa_cons (pv 0) (pa_cons pe_int pa_nil))) pe_int)))))), ?_⟩
    refine ⟨_, rfl, p, 8, _, rfl, bg, by omega, by omega, by omega, fun k H1 k0 k1 bg1 bt1 => ?_⟩
    refine ⟨_, rfl, rfl, _, rfl, ?_⟩
    refine ite2 (fun c1 => ?_) (fun c1 => ?_)
    · refine ⟨_, rfl, _, _, rfl, rfl, ⟨by decide, by decide, by decide⟩, _, _, rfl, rfl, .inl ⟨by decide, by decide⟩, _, _, rfl, rfl, p, 2000000000000000000000000000001, _, rfl, bg1, by omega, by omega, by omega, fun r H2 r0 r1 bg2 bt2 => ⟨_, _, rfl, rfl, ⟨by decide, by decide, by decide⟩, _, _, rfl, rfl, ?_⟩⟩
      exact q (r - 1000000000000000000000000000000) H2 (by omega) (by omega) (bg2.mono (by omega)) (bt1.trans bt2)
    · refine ⟨_, rfl, rfl, _, rfl, ?_⟩
      refine ite2 (fun c2 => ?_) (fun c2 => ?_)
      · refine ⟨_, _, rfl, rfl, ⟨by decide, by decide, by decide⟩, _, rfl, p, 3, _, rfl, bg1, by omega, by omega, by omega, fun a H2 a0 a1 bg2 bt2 => ⟨_, _, rfl, rfl, ?_⟩⟩
        refine ⟨_, rfl, p, 2, _, rfl, bg2, by omega, by omega, by omega, fun b H3 b0 b1 bg3 bt3 => ⟨_, _, rfl, rfl, .inl ⟨by decide, by decide⟩, _, _, rfl, rfl, _, _, rfl, rfl, .inr ⟨by omega, by omega⟩, ?_⟩⟩
        refine q ((1000000000000000000000000000000 - a) * (1 - 2 * b)) H3 ?_ ?_ (bg3.mono (by omega)) ((bt1.trans bt2).trans bt3)
        · have : b = 0 ∨ b = 1 := by omega
          rcases this with h | h <;> subst h <;> omega
        · have : b = 0 ∨ b = 1 := by omega
          rcases this with h | h <;> subst h <;> omega
      · refine ⟨_, rfl, p, 15, _, rfl, bg1, by omega, by omega, by omega, fun r H2 r0 r1 bg2 bt2 => ⟨_, _, rfl, rfl, ?_⟩⟩
        exact q (r - 7) H2 (by omega) (by omega) (bg2.mono (by omega)) (bt1.trans bt2)
end
/-! _law_stretch -/
abbrev s_l_stretch : Stmt := topS 22
abbrev sc_l_stretch_N : List Str := ["_law_bag_here", "_law_one", "_law_other_here", "_law_begin", "_law_end", "_law_kind"]
theorem sc_l_stretch : FnScope sc_l_stretch_N ["_law_bag_here"] (defScope s_l_stretch) := ⟨rfl, rfl, rfl, by decide +kernel, rfl, by decide +kernel, by decide +kernel⟩
def sp_l_stretch (K : PySem.W.Frag) : Sp := fun vs H Q _ => ∃ (p : Addr) (c : Int), vs = [.ref p] ∧ BagAt H p c ∧ c ≤ 900000 ∧ ∀ t b e H', H t = none → H' t = some (.tup [.int b, .int e]) → strP (b, e) = true → BagAt H' p (c + 8) → Kp p H H' → Q (.ref t) H'
section
variable {P : Program} {w : World} {K : PySem.W.Frag} {mg : Str → Option Value} {bh : Heap}
theorem ok_l_stretch {f : Addr} {fd : FuncData} {f_l_take : Addr} {fd_l_take : FuncData} {f_l_edge : Addr} {fd_l_edge : FuncData} (B : Blt mg) (T : Txt K mg) (R_l_take : Rdy P w K mg bh "_law_take" 1 ["_law_bag_here", "_law_many"] (sp_l_take K) f_l_take fd_l_take) (R_l_edge : Rdy P w K mg bh "_law_edge" 2 ["_law_bag_here"] (sp_l_edge K) f_l_edge fd_l_edge) (F : Fun K "_law_stretch" "_law_stretch" s_l_stretch f fd) : FnOk P w K mg bh CX0 3 f fd ["_law_bag_here"] (sp_l_stretch K) := by
  refine F.ok sc_l_stretch (fun vs H Q E h => ?_) (fun cdv A outer s H vs Q E hr h => ?_)
  · obtain ⟨p, c, rfl, _⟩ := h
    rfl
  · obtain ⟨p, c, rfl, bg, hc, q⟩ := h
    refine ⟨_, (pss_cons (ps_par (i := 1) (j := 2) (by rfl) sc_l_stretch.nd rfl rfl (by decide) rfl rfl (pa_cons (pe_rdy R_l_edge hr (by decide) (by rfl) (pa_cons (pv 0) pa_nil)) (pa_cons (pe_rdy R_l_edge hr (by decide) (by rfl) (pa_cons (pv 0) pa_nil)) pa_nil)) (by rfl))
      (pss_mid (ps_if (pt_cmpR op_eq (pe_rdy R_l_take hr (by decide) (by rfl) (pa_cons (pv 0) (pa_cons pe_int pa_nil))) pe_int (nomark _))
      (pss_one (ps_set (i := 2) sc_l_stretch.nd rfl (Or.inl rfl) (pv 1)))
      pss_nil)
      (pss_cons (ps_par (i := 3) (j := 4) (by rfl) sc_l_stretch.nd rfl rfl (by decide) rfl rfl (pa_cons (pe_callB (call_min2 rfl) (by rfl) B.b_min (by decide +kernel) (pa_cons (pv 1) (pa_cons (pv 2) pa_nil))) (pa_cons (pe_callB (call_max2 rfl) (by rfl) B.b_max (by decide +kernel) (pa_cons (pv 1) (pa_cons (pv 2) pa_nil))) pa_nil)) (by rfl))
      (pss_cons (ps_set (i := 5) sc_l_stretch.nd rfl (Or.inl rfl) (pe_rdy R_l_take hr (by decide) (by rfl) (pa_cons (pv 0) (pa_cons pe_int pa_nil))))
      (pss_mid (ps_if (PW.pt (pw_or (pt_cmpR op_eq (pv 5) pe_int (nomark _)) (pw_or1 (pt_cmpR op_eq (pv 5) pe_int (nomark _)))))
      (pss_one (ps_set (i := 3) sc_l_stretch.nd rfl (Or.inl rfl) (pe_un un_neg (pe_op op_pow pe_int pe_int))))
      pss_nil)
      (pss_mid (ps_if (PW.pt (pw_or (pt_cmpR op_eq (pv 5) pe_int (nomark _)) (pw_or1 (pt_cmpR op_eq (pv 5) pe_int (nomark _)))))
      (pss_one (ps_set (i := 4) sc_l_stretch.nd rfl (Or.inl rfl) (pe_op op_pow pe_int pe_int)))
      pss_nil)
      (pss_one (ps_ret (pe_tup (pa_cons (pv 3) (pa_cons (pv 4) pa_nil))))))))))), ?_⟩
    refine ⟨_, rfl, p, _, rfl, bg, by omega, fun x H1 x0 x1 bg1 bt1 => ⟨_, rfl, p, _, rfl, bg1, by omega, fun y H2 y0 y1 bg2 bt2 => ⟨_, _, rfl, ?_⟩⟩⟩
    refine ⟨fun σ' H' => ∃ w, σ' = [some (.ref p), some (.int x), some (.int w), none, none, none] ∧ -1000000000000000000000000000000 ≤ w ∧ w ≤ 1000000000000000000000000000000 ∧ BagAt H' p (c + 7) ∧ But p H H', ?_, ?_⟩
    · refine ⟨_, rfl, p, 6, _, rfl, bg2, by omega, by omega, by omega, fun k H3 k0 k1 bg3 bt3 => ⟨rfl, _, rfl, ?_⟩⟩
      refine ite2 (fun c1 => ?_) (fun c1 => ?_)
      · exact ⟨_, rfl, x, rfl, x0, x1, bg3.mono (by omega), (bt1.trans bt2).trans bt3⟩
      · exact ⟨y, rfl, y0, y1, bg3.mono (by omega), (bt1.trans bt2).trans bt3⟩
    rintro σ' H3 ⟨w, rfl, w0, w1, bg3, bt3⟩
    refine ⟨_, rfl, _, rfl, _, _, rfl, _, rfl, _, rfl, _, _, rfl, _, _, rfl, ?_⟩
    refine ⟨_, rfl, p, 16, _, rfl, bg3, by omega, by omega, by omega, fun k H4 k0 k1 bg4 bt4 => ?_⟩
    obtain ⟨lo, elo⟩ : ∃ lo : Int, (if w < x then w else x) = lo := ⟨_, rfl⟩
    obtain ⟨hi, ehi⟩ : ∃ hi : Int, (if w > x then w else x) = hi := ⟨_, rfl⟩
    have hb : -1000000000000000000000000000000 ≤ lo ∧ lo ≤ hi ∧ hi ≤ 1000000000000000000000000000000 := by
      subst elo; subst ehi
      (repeat' split) <;> omega
    refine ⟨fun σ' H' => ∃ b, σ' = [some (.ref p), some (.int x), some (.int w), some (.int b), some (.int hi), some (.int k)] ∧ strP (b, hi) = true ∧ H' = H4, ?_, ?_⟩
    · have base : strP (lo, hi) = true := strP_of hb.1 hb.2.1 hb.2.2
      refine ⟨_, rfl, rfl, _, rfl, ?_⟩
      refine ite2 (fun c1 => ?_) (fun c1 => ?_)
      · exact ⟨_, _, rfl, rfl, ⟨by decide, by decide, by decide⟩, _, rfl, -10000000000000000000000000000000, by rw [← ehi]; rfl, strP_first base, rfl⟩
      · refine ⟨_, rfl, rfl, _, rfl, ?_⟩
        refine ite2 (fun c2 => ?_) (fun c2 => ?_)
        · exact ⟨_, _, rfl, rfl, ⟨by decide, by decide, by decide⟩, _, rfl, -10000000000000000000000000000000, by rw [← ehi]; rfl, strP_first base, rfl⟩
        · exact ⟨lo, by rw [← ehi, ← elo]; rfl, base, rfl⟩
    rintro σ' H5 ⟨b, rfl, base, rfl⟩
    refine ⟨fun σ' H' => ∃ e, σ' = [some (.ref p), some (.int x), some (.int w), some (.int b), some (.int e), some (.int k)] ∧ strP (b, e) = true ∧ H' = H5, ?_, ?_⟩
    · refine ⟨_, rfl, rfl, _, rfl, ?_⟩
      refine ite2 (fun c1 => ?_) (fun c1 => ?_)
      · exact ⟨_, _, rfl, rfl, ⟨by decide, by decide, by decide⟩, 10000000000000000000000000000000, rfl, strP_last base, rfl⟩
      · refine ⟨_, rfl, rfl, _, rfl, ?_⟩
        refine ite2 (fun c2 => ?_) (fun c2 => ?_)
        · exact ⟨_, _, rfl, rfl, ⟨by decide, by decide, by decide⟩, 10000000000000000000000000000000, rfl, strP_last base, rfl⟩
        · exact ⟨hi, rfl, base, rfl⟩
    rintro σ' H6 ⟨e, rfl, good, rfl⟩
    refine ⟨_, rfl, _, rfl, (by show 2 ≤ sizeLine; decide), fun T nT => ?_⟩
    have btf : But p H H6 := bt3.trans bt4
    have npT : p ≠ T := by obtain ⟨ys, h⟩ := bg4.lst; exact ne_of_none h nT
    exact q T b e _ ((btf T (Ne.symm npT)).symm.trans nT) upd_same good ((bg4.same (Same.new nT)).mono (by omega)) (btf.kp.trans (Kp.new nT))
end
/-! _law_inner -/
abbrev s_l_inner : Stmt := topS 23
abbrev sc_l_inner_N : List Str := ["_law_bag_here", "_law_span", "_law_low", "_law_high", "_law_room"]
theorem sc_l_inner : FnScope sc_l_inner_N ["_law_bag_here", "_law_span"] (defScope s_l_inner) := ⟨rfl, rfl, rfl, by decide +kernel, rfl, by decide +kernel, by decide +kernel⟩
def sp_l_inner (K : PySem.W.Frag) : Sp := fun vs H Q _ => ∃ (p t : Addr) (b e c : Int), vs = [.ref p, .ref t] ∧ BagAt H p c ∧ c ≤ 1000000 ∧ SqT K H t [.int b, .int e] ∧ strP (b, e) = true ∧ ∀ r H', b ≤ r → r ≤ e → -1000000000000000000000000000000 ≤ r → r ≤ 1000000000000000000000000000000 → BagAt H' p (c + 3) → Kp p H H' → Q (.int r) H'
section
variable {P : Program} {w : World} {K : PySem.W.Frag} {mg : Str → Option Value} {bh : Heap}
theorem ok_l_inner {f : Addr} {fd : FuncData} {f_l_take : Addr} {fd_l_take : FuncData} (B : Blt mg) (T : Txt K mg) (R_l_take : Rdy P w K mg bh "_law_take" 1 ["_law_bag_here", "_law_many"] (sp_l_take K) f_l_take fd_l_take) (F : Fun K "_law_inner" "_law_inner" s_l_inner f fd) : FnOk P w K mg bh CX0 2 f fd ["_law_bag_here", "_law_span"] (sp_l_inner K) := by
  refine F.ok sc_l_inner (fun vs H Q E h => ?_) (fun cdv A outer s H vs Q E hr h => ?_)
  · obtain ⟨p, t, b, e, c, rfl, _⟩ := h
    rfl
  · obtain ⟨p, t, b, e, c, rfl, bg, hc, sq, good, q⟩ := h
    refine ⟨_, (pss_cons (ps_set (i := 2) sc_l_inner.nd rfl (Or.inl rfl) (pe_callB (call_max2 rfl) (by rfl) B.b_max (by decide +kernel) (pa_cons (pe_un un_neg (pe_op op_pow pe_int pe_int)) (pa_cons (pe_ix ix_tup (pv 1) pe_int (fun _ _ => rfl)) pa_nil))))
      (pss_cons (ps_set (i := 3) sc_l_inner.nd rfl (Or.inl rfl) (pe_callB (call_min2 rfl) (by rfl) B.b_min (by decide +kernel) (pa_cons (pe_op op_pow pe_int pe_int) (pa_cons (pe_ix ix_tup (pv 1) pe_int (fun _ _ => rfl)) pa_nil))))
      (pss_mid (ps_set (i := 4) sc_l_inner.nd rfl (Or.inl rfl) (pe_op op_add (pe_op op_sub (pv 3) (pv 2)) pe_int))
      (pss_one (ps_ret (pe_op op_add (pv 2) (pe_ix ix_list (pe_lst (pa_cons (pe_rdy R_l_take hr (by decide) (by rfl) (pa_cons (pv 0) (pa_cons (pv 4) pa_nil))) (pa_cons (pe_callB (call_min2 rfl) (by rfl) B.b_min (by decide +kernel) (pa_cons (pe_op op_sub (pv 4) pe_int) (pa_cons (pe_rdy R_l_take hr (by decide) (by rfl) (pa_cons (pv 0) (pa_cons pe_int pa_nil))) pa_nil))) (pa_cons (pe_op op_sub (pv 4) pe_int) pa_nil)))) (pe_rdy R_l_take hr (by decide) (by rfl) (pa_cons (pv 0) (pa_cons pe_int pa_nil))) (fun _ _ => rfl)))))))), ?_⟩
    refine ⟨_, _, rfl, rfl, ⟨by decide, by decide, by decide⟩, _, rfl, _, rfl, t, _, 0, _, rfl, rfl, sq, rfl, _, _, rfl, ?_⟩
    refine ⟨_, _, rfl, rfl, ⟨by decide, by decide, by decide⟩, _, rfl, t, _, 1, _, rfl, rfl, sq, rfl, _, _, rfl, ?_⟩
    obtain ⟨lo, elo⟩ : ∃ lo : Int, (if b > -1000000000000000000000000000000 then b else -1000000000000000000000000000000) = lo := ⟨_, rfl⟩
    obtain ⟨hi, ehi⟩ : ∃ hi : Int, (if e < 1000000000000000000000000000000 then e else 1000000000000000000000000000000) = hi := ⟨_, rfl⟩
    have hb : b ≤ lo ∧ lo ≤ hi ∧ hi ≤ e ∧ -1000000000000000000000000000000 ≤ lo ∧ hi ≤ 1000000000000000000000000000000 := by
      unfold strP edgeI at good
      simp only [Bool.and_eq_true, Bool.or_eq_true, decide_eq_true_eq] at good
      subst elo; subst ehi
      (repeat' split) <;> omega
    refine ⟨fun σ' H' => σ' = [some (.ref p), some (.ref t), some (.int lo), some (.int hi), some (.int (hi - lo + 1))] ∧ H' = H, ⟨_, rfl, _, rfl, _, _, rfl, rfl, _, _, rfl, rfl, by rw [← elo, ← ehi]; exact ⟨rfl, rfl⟩⟩, ?_⟩
    rintro σ' H0 ⟨rfl, rfl⟩
    refine ⟨_, rfl, _, rfl, _, rfl, p, _, _, rfl, bg, by omega, by omega, by omega, fun r1 H1 r10 r11 bg1 bt1 => ?_⟩
    refine ⟨_, rfl, _, _, rfl, rfl, _, rfl, p, 3, _, rfl, bg1, by omega, by omega, by omega, fun r2 H2 r20 r21 bg2 bt2 => ⟨_, _, rfl, ?_⟩⟩
    refine ⟨_, rfl, _, _, rfl, rfl, (by show 3 ≤ sizeLine; decide), fun L nL => ?_⟩
    have npL : p ≠ L := by obtain ⟨ys, h⟩ := bg2.lst; exact ne_of_none h nL
    refine ⟨_, rfl, p, 3, _, rfl, bg2.same (Same.new nL), by omega, by omega, by omega, fun k H3 k0 k1 bg3 bt3 => ?_⟩
    have hL := (bt3 L (Ne.symm npL)).trans upd_same
    have kpf : Kp p H0 H3 := ((bt1.trans bt2).kp.trans (Kp.new nL)).trans bt3.kp
    have fin : ∀ x : Int, 0 ≤ x → x ≤ hi - lo → Q (.int (lo + x)) H3 := fun x h0 h1 => q (lo + x) H3 (by omega) (by omega) (by omega) (by omega) (bg3.mono (by omega)) kpf
    have : k = 0 ∨ k = 1 ∨ k = 2 := by omega
    rcases this with rfl | rfl | rfl
    · exact ⟨L, _, 0, _, rfl, rfl, SqL.hp hL, rfl, _, _, rfl, rfl, fin r1 r10 (by omega)⟩
    · refine ⟨L, _, 1, _, rfl, rfl, SqL.hp hL, rfl, _, _, rfl, rfl, fin _ ?_ ?_⟩
      · split <;> omega
      · split <;> omega
    · exact ⟨L, _, 2, _, rfl, rfl, SqL.hp hL, rfl, _, _, rfl, rfl, fin _ (by omega) (by omega)⟩
end
/-! _law_other -/
abbrev s_l_other : Stmt := topS 24
abbrev sc_l_other_N : List Str := ["_law_bag_here", "_law_spans", "_law_ends", "_law_found", "_law_span", "_law_place", "_law_kind", "_law_cut", "_law_again", "_law_parts", "_law_edge_here"]
theorem sc_l_other : FnScope sc_l_other_N ["_law_bag_here", "_law_spans", "_law_ends"] (defScope s_l_other) := ⟨rfl, rfl, rfl, by decide +kernel, rfl, by decide +kernel, by decide +kernel⟩
def sp_l_other (K : PySem.W.Frag) : Sp := fun vs H Q _ => ∃ (p s : Addr) (ts : List Addr) (ps : List Pr) (z : Bool) (c : Int), vs = [.ref p, .ref s, endsV z] ∧ BagAt H p c ∧ c ≤ 500000 ∧ H s = some (.lst (ts.map V.ref)) ∧ Pd H ts ps ∧ (∀ x ∈ ps, strP x = true) ∧ ps.length ≤ 20 ∧ ∀ r us qs H', H r = none → H' r = some (.lst (us.map V.ref)) → Pd H' us qs → (∀ x ∈ qs, strP x = true) → qs.length ≤ 100 → (∀ m, cov z qs m ↔ cov z ps m) → BagAt H' p (c + 500) → Kp p H H' → Q (.ref r) H'
section
variable {P : Program} {w : World} {K : PySem.W.Frag} {mg : Str → Option Value} {bh : Heap}
theorem ok_l_other {f : Addr} {fd : FuncData} {f_l_take : Addr} {fd_l_take : FuncData} {f_l_inner : Addr} {fd_l_inner : FuncData} {f_l_edge : Addr} {fd_l_edge : FuncData} (B : Blt mg) (T : Txt K mg) (R_l_take : Rdy P w K mg bh "_law_take" 1 ["_law_bag_here", "_law_many"] (sp_l_take K) f_l_take fd_l_take) (R_l_inner : Rdy P w K mg bh "_law_inner" 2 ["_law_bag_here", "_law_span"] (sp_l_inner K) f_l_inner fd_l_inner) (R_l_edge : Rdy P w K mg bh "_law_edge" 2 ["_law_bag_here"] (sp_l_edge K) f_l_edge fd_l_edge) (F : Fun K "_law_other" "_law_other" s_l_other f fd) : FnOk P w K mg bh CX0 3 f fd ["_law_bag_here", "_law_spans", "_law_ends"] (sp_l_other K) := by
  refine F.ok sc_l_other (fun vs H Q E h => ?_) (fun cdv A outer s H vs Q E hr h => ?_)
  · obtain ⟨p, s, ts, ps, z, c, rfl, _⟩ := h
    rfl
  · obtain ⟨p, s, ts, ps, z, c, rfl, bg, hc, hs, pd, hst, hln, q⟩ := h
    refine ⟨_, (pss_cons (ps_set (i := 3) sc_l_other.nd rfl (Or.inl rfl) (pe_lst pa_nil))
      (pss_cons (ps_for PassesOwn.never rfl (pi_list (pv 1)) (pg_name (i := 4) sc_l_other.nd rfl (Or.inl rfl))
      (pss_cons (ps_set (i := 5) sc_l_other.nd rfl (Or.inl rfl) (pe_rdy R_l_take hr (by decide) (by rfl) (pa_cons (pv 0) (pa_cons (pe_op op_add (pe_callB call_len_seq (by rfl) B.b_len (by decide +kernel) (pa_cons (pv 3) pa_nil)) pe_int) pa_nil))))
      (pss_cons (ps_set (i := 6) sc_l_other.nd rfl (Or.inl rfl) (pe_rdy R_l_take hr (by decide) (by rfl) (pa_cons (pv 0) (pa_cons pe_int pa_nil))))
      (pss_cons (ps_par (i := 7) (j := 8) (by rfl) sc_l_other.nd rfl rfl (by decide) rfl rfl (pa_cons (pe_rdy R_l_inner hr (by decide) (by rfl) (pa_cons (pv 0) (pa_cons (pv 4) pa_nil))) (pa_cons (pe_rdy R_l_inner hr (by decide) (by rfl) (pa_cons (pv 0) (pa_cons (pv 4) pa_nil))) pa_nil)) (by rfl))
      (pss_mid (ps_set (i := 9) sc_l_other.nd rfl (Or.inl rfl) (pe_lst (pa_cons (pv 4) pa_nil)))
      (pss_mid (ps_if (pt_cmpR op_eq (pv 6) pe_int (nomark _))
      (pss_one (ps_set (i := 9) sc_l_other.nd rfl (Or.inl rfl) (pe_lst (pa_cons (pv 4) (pa_cons (pv 4) pa_nil)))))
      pss_nil)
      (pss_mid (ps_if (pt_cmpR op_eq (pv 6) pe_int (nomark _))
      (pss_one (ps_set (i := 9) sc_l_other.nd rfl (Or.inl rfl) (pe_lst (pa_cons (pe_tup (pa_cons (pv 7) (pa_cons (pe_ix ix_tup (pv 4) pe_int (fun _ _ => rfl)) pa_nil))) (pa_cons (pe_tup (pa_cons (pe_ix ix_tup (pv 4) pe_int (fun _ _ => rfl)) (pa_cons (pv 7) pa_nil))) pa_nil)))))
      pss_nil)
      (pss_mid (ps_if (pt_cmpR op_eq (pv 6) pe_int (nomark _))
      (pss_one (ps_set (i := 9) sc_l_other.nd rfl (Or.inl rfl) (pe_lst (pa_cons (pe_tup (pa_cons (pe_callB (call_min2 rfl) (by rfl) B.b_min (by decide +kernel) (pa_cons (pv 7) (pa_cons (pv 8) pa_nil))) (pa_cons (pe_callB (call_max2 rfl) (by rfl) B.b_max (by decide +kernel) (pa_cons (pv 7) (pa_cons (pv 8) pa_nil))) pa_nil))) (pa_cons (pv 4) pa_nil)))))
      pss_nil)
      (pss_mid (ps_set (i := 3) sc_l_other.nd rfl (Or.inl rfl) (pe_op op_cat (pe_op op_cat (pe_op op_cat (pe_slice sl_list (pv 3) po_none (po_some (pv 5))) (pe_slice sl_list (pv 9) po_none (po_some pe_int))) (pe_slice sl_list (pv 3) (po_some (pv 5)) po_none)) (pe_slice sl_list (pv 9) (po_some pe_int) po_none)))
      (pss_one (ps_if (PW.pt (pw_and (pt_cmpR op_eq (pv 2) pe_str (nomark _)) (pw_and1 (pt_cmpR op_eq (pe_rdy R_l_take hr (by decide) (by rfl) (pa_cons (pv 0) (pa_cons pe_int pa_nil))) pe_int (nomark _)))))
      (pss_cons (ps_set (i := 10) sc_l_other.nd rfl (Or.inl rfl) (pe_rdy R_l_edge hr (by decide) (by rfl) (pa_cons (pv 0) pa_nil)))
      (pss_one (ps_expr (pe_bm PySem.F.plainAttrs_list PySem.F.slot_list_append PySem.F.type_list_append mt_append (pv 3) (pa_cons (pe_tup (pa_cons (pv 10) (pa_cons (pv 10) pa_nil))) pa_nil)))))
      pss_nil)))))))))))
      (pss_one (ps_ret (pv 3))))), ?_⟩
    have nsp : s ≠ p := bag_not_refs bg hs
    refine ⟨Nat.zero_le _, fun f0 nf0 => ?_⟩
    have npf0 : p ≠ f0 := by obtain ⟨ys, h⟩ := bg.lst; exact ne_of_none h nf0
    refine ⟨_, rfl, s, rfl, ⟨_, SqL.hp (Same.new nf0 _ _ hs)⟩, ?_⟩
    refine for_list (K := K) (a := s) (xs := ts.map V.ref) (fun i σ H' => ∃ f us qs y4 y5 y6 y7 y8 y9 y10, σ = [some (.ref p), some (.ref s), some (endsV z), some (.ref f), y4, y5, y6, y7, y8, y9, y10] ∧ BagAt H' p (c + 20 * (i : Int)) ∧ Kp p H H' ∧ H f = none ∧ H' f = some (.lst (us.map V.ref)) ∧ Pd H' us qs ∧ (∀ x ∈ qs, strP x = true) ∧ qs.length ≤ 3 * i ∧ ∀ m, cov z qs m ↔ cov z (ps.take i) m)
      ⟨f0, [], [], none, none, none, none, none, none, none, rfl, (bg.same (Same.new nf0)).mono (by omega), Kp.new nf0, nf0, upd_same, trivial, fun x hx => absurd hx List.not_mem_nil, Nat.zero_le _, fun m => Iff.rfl⟩ (fun i σ H' _ h => ?_) ?_ ?_
    · obtain ⟨_, _, _, _, _, _, _, _, _, _, _, _, kp, _⟩ := h
      exact SqL.hp (kp _ _ nsp hs)
    · rintro i x σ H1 hx ⟨f, us, qs, y4, y5, y6, y7, y8, y9, y10, rfl, bg1, kp1, nfH, hf, pdq, hgq, lq, cvq⟩
      obtain ⟨t, ht, rfl⟩ := map_get hx
      obtain ⟨b, hb, et0⟩ := Pd.get pd ht
      have gb := hst b (List.mem_of_getElem? hb)
      have hi20 : i < 20 := by have := (List.getElem?_eq_some_iff.mp hb).1; omega
      have ntp : t ≠ p := bag_not_tup bg et0
      have et := kp1 _ _ ntp et0
      have nfp : f ≠ p := bag_not_refs bg1 hf
      have lu := pdq.len
      have hml : ((us.map V.ref).length : Int) = (us.length : Int) := by rw [List.length_map]
      have two : ∀ {x y : Pr}, strP x = true → strP y = true → ∀ w ∈ [x, y], strP w = true := fun {x y} hx hy w hw => by
        rcases List.mem_cons.mp hw with e | hw
        · exact e ▸ hx
        · rcases List.mem_cons.mp hw with e | hw
          · exact e ▸ hy
          · exact absurd hw List.not_mem_nil
      have free : ∀ {Hx : Hp} {cc : Int} {P : Addr}, Kp p H1 Hx → BagAt Hx p cc → Hx P = none → H1 P = none := by
        intro Hx cc P k bgx n
        cases e : H1 P with
        | none => rfl
        | some o =>
          have : P ≠ p := fun z => by subst z; obtain ⟨ys, h⟩ := bgx.lst; rw [h] at n; cases n
          rw [k _ _ this e] at n; cases n
      refine ⟨_, rfl, _, rfl, f, _, rfl, .inl (SqL.hp hf), _, _, rfl, rfl, p, _, _, rfl, bg1, by omega, by omega, by omega, fun pl H2 pl0 pl1 bg2 bt2 => ?_⟩
      refine ⟨_, rfl, p, 4, _, rfl, bg2, by omega, by omega, by omega, fun kd H3 k0 k1 bg3 bt3 => ?_⟩
      have kp3 : Kp p H1 H3 := (bt2.trans bt3).kp
      refine ⟨_, rfl, _, rfl, p, t, b.1, b.2, _, rfl, bg3, by omega, SqT.hp (kp3 _ _ ntp et), gb, fun cu H4 cu1 cu2 cu3 cu4 bg4 kp4 => ?_⟩
      have kp14 := kp3.trans kp4
      refine ⟨_, rfl, _, rfl, p, t, b.1, b.2, _, rfl, bg4, by omega, SqT.hp (kp14 _ _ ntp et), gb, fun ag H5 ag1 ag2 ag3 ag4 bg5 kp5 => ⟨_, _, rfl, ?_⟩⟩
      have kp15 := kp14.trans kp5
      have bg5' : BagAt H5 p (c + 20 * (i : Int) + 8) := bg5.mono (by omega)
      refine ⟨fun σ' H' => ∃ P ws xs, σ' = [some (.ref p), some (.ref s), some (endsV z), some (.ref f), some (.ref t), some (.int pl), some (.int kd), some (.int cu), some (.int ag), some (.ref P), y10] ∧ BagAt H' p (c + 20 * (i : Int) + 8) ∧ Kp p H1 H' ∧ H1 P = none ∧ H' P = some (.lst (ws.map V.ref)) ∧ Pd H' ws xs ∧ (∀ x ∈ xs, strP x = true) ∧ 1 ≤ xs.length ∧ xs.length ≤ 2 ∧ ∀ m, cov z xs m ↔ covP z b m, ?_, ?_⟩
      · refine ⟨_, rfl, (by show 1 ≤ sizeLine; decide), fun P nP => ?_⟩
        exact ⟨P, [t], [b], rfl, bg5'.same (Same.new nP), kp15.trans (Kp.new nP), free kp15 bg5' nP, upd_same, ⟨Same.new nP _ _ (kp15 _ _ ntp et), trivial⟩, fun x hx => (List.mem_singleton.mp hx) ▸ gb, by simp, by simp, fun m => cov_single⟩
      rintro σ' H7 ⟨P, ws, xs, rfl, bgP, kpP, nP1, hP, pdP, gP, l1, l2, cvP⟩
      have etP := kpP _ _ ntp et
      refine ⟨fun σ' H' => ∃ P ws xs, σ' = [some (.ref p), some (.ref s), some (endsV z), some (.ref f), some (.ref t), some (.int pl), some (.int kd), some (.int cu), some (.int ag), some (.ref P), y10] ∧ BagAt H' p (c + 20 * (i : Int) + 8) ∧ Kp p H1 H' ∧ H1 P = none ∧ H' P = some (.lst (ws.map V.ref)) ∧ Pd H' ws xs ∧ (∀ x ∈ xs, strP x = true) ∧ 1 ≤ xs.length ∧ xs.length ≤ 2 ∧ ∀ m, cov z xs m ↔ covP z b m, ?_, ?_⟩
      · refine ⟨_, rfl, rfl, _, rfl, ?_⟩
        refine ite2 (fun ck => ?_) (fun ck => ?_)
        · refine ⟨_, rfl, _, rfl, (by show 2 ≤ sizeLine; decide), fun P' nP' => ?_⟩
          exact ⟨P', [t, t], [b, b], rfl, bgP.same (Same.new nP'), kpP.trans (Kp.new nP'), free kpP bgP nP', upd_same, ⟨Same.new nP' _ _ etP, Same.new nP' _ _ etP, trivial⟩, two gb gb, by simp, by simp, fun m => by rw [cov_two]; exact or_self_iff⟩
        · exact ⟨P, ws, xs, rfl, bgP, kpP, nP1, hP, pdP, gP, l1, l2, cvP⟩
      clear bgP kpP nP1 hP pdP gP l1 l2 cvP etP
      rintro σ' H7 ⟨P, ws, xs, rfl, bgP, kpP, nP1, hP, pdP, gP, l1, l2, cvP⟩
      have etP := kpP _ _ ntp et
      refine ⟨fun σ' H' => ∃ P ws xs, σ' = [some (.ref p), some (.ref s), some (endsV z), some (.ref f), some (.ref t), some (.int pl), some (.int kd), some (.int cu), some (.int ag), some (.ref P), y10] ∧ BagAt H' p (c + 20 * (i : Int) + 8) ∧ Kp p H1 H' ∧ H1 P = none ∧ H' P = some (.lst (ws.map V.ref)) ∧ Pd H' ws xs ∧ (∀ x ∈ xs, strP x = true) ∧ 1 ≤ xs.length ∧ xs.length ≤ 2 ∧ ∀ m, cov z xs m ↔ covP z b m, ?_, ?_⟩
      · refine ⟨_, rfl, rfl, _, rfl, ?_⟩
        refine ite2 (fun ck => ?_) (fun ck => ?_)
        · refine ⟨_, rfl, _, rfl, t, _, 1, _, rfl, rfl, SqT.hp etP, rfl, (by show 2 ≤ sizeLine; decide), fun T1 nT1 => ?_⟩
          have sT1 : Same H7 (upd H7 T1 (.tup [.int cu, .int b.2])) := Same.new nT1
          refine ⟨_, rfl, t, _, 0, _, rfl, rfl, SqT.hp (sT1 _ _ etP), rfl, _, rfl, (by show 2 ≤ sizeLine; decide), fun T2 nT2 => ?_⟩
          have sT2 : Same H7 (upd (upd H7 T1 (.tup [.int cu, .int b.2])) T2 (.tup [.int b.1, .int cu])) := sT1.trans (Same.new nT2)
          have e1 : (upd (upd H7 T1 (.tup [.int cu, .int b.2])) T2 (.tup [.int b.1, .int cu])) T1 = some (.tup [.int cu, .int b.2]) := Same.new nT2 _ _ upd_same
          have e2 : (upd (upd H7 T1 (.tup [.int cu, .int b.2])) T2 (.tup [.int b.1, .int cu])) T2 = some (.tup [.int b.1, .int cu]) := upd_same
          generalize upd (upd H7 T1 (.tup [.int cu, .int b.2])) T2 (.tup [.int b.1, .int cu]) = H8 at *
          refine ⟨(by show 2 ≤ sizeLine; decide), fun P' nP' => ?_⟩
          have kp8 : Kp p H1 H8 := kpP.trans (Kp.same sT2)
          have bg8 := bgP.same sT2
          exact ⟨P', [T1, T2], [(cu, b.2), (b.1, cu)], rfl, bg8.same (Same.new nP'), kp8.trans (Kp.new nP'), free kp8 bg8 nP', upd_same, ⟨Same.new nP' _ _ e1, Same.new nP' _ _ e2, trivial⟩, two (strP_cutR gb cu1 cu2 cu3 cu4) (strP_cutL gb cu1 cu2 cu3 cu4), by simp, by simp, fun m => by rw [cov_two]; exact covP_cut cu1 cu2 m⟩
        · exact ⟨P, ws, xs, rfl, bgP, kpP, nP1, hP, pdP, gP, l1, l2, cvP⟩
      clear bgP kpP nP1 hP pdP gP l1 l2 cvP etP
      rintro σ' H7 ⟨P, ws, xs, rfl, bgP, kpP, nP1, hP, pdP, gP, l1, l2, cvP⟩
      have etP := kpP _ _ ntp et
      refine ⟨fun σ' H' => ∃ P ws xs, σ' = [some (.ref p), some (.ref s), some (endsV z), some (.ref f), some (.ref t), some (.int pl), some (.int kd), some (.int cu), some (.int ag), some (.ref P), y10] ∧ BagAt H' p (c + 20 * (i : Int) + 8) ∧ Kp p H1 H' ∧ H1 P = none ∧ H' P = some (.lst (ws.map V.ref)) ∧ Pd H' ws xs ∧ (∀ x ∈ xs, strP x = true) ∧ 1 ≤ xs.length ∧ xs.length ≤ 2 ∧ ∀ m, cov z xs m ↔ covP z b m, ?_, ?_⟩
      · refine ⟨_, rfl, rfl, _, rfl, ?_⟩
        refine ite2 (fun ck => ?_) (fun ck => ?_)
        · refine ⟨_, rfl, _, rfl, _, _, rfl, _, rfl, _, rfl, _, _, rfl, (by show 2 ≤ sizeLine; decide), fun T1 nT1 => ?_⟩
          obtain ⟨lo, elo⟩ : ∃ lo : Int, (if ag < cu then ag else cu) = lo := ⟨_, rfl⟩
          obtain ⟨hi, ehi⟩ : ∃ hi : Int, (if ag > cu then ag else cu) = hi := ⟨_, rfl⟩
          have hb : b.1 ≤ lo ∧ lo ≤ hi ∧ hi ≤ b.2 ∧ -1000000000000000000000000000000 ≤ lo ∧ hi ≤ 1000000000000000000000000000000 := by
            subst elo; subst ehi
            (repeat' split) <;> omega
          have sT1 : Same H7 (upd H7 T1 (.tup [.int (if ag < cu then ag else cu), .int (if ag > cu then ag else cu)])) := Same.new nT1
          have e1 : (upd H7 T1 (.tup [.int (if ag < cu then ag else cu), .int (if ag > cu then ag else cu)])) T1 = some (.tup [.int lo, .int hi]) := by rw [upd_same, elo, ehi]
          generalize upd H7 T1 (.tup [.int (if ag < cu then ag else cu), .int (if ag > cu then ag else cu)]) = H8 at *
          refine ⟨_, rfl, (by show 2 ≤ sizeLine; decide), fun P' nP' => ?_⟩
          have kp8 : Kp p H1 H8 := kpP.trans (Kp.same sT1)
          have bg8 := bgP.same sT1
          exact ⟨P', [T1, t], [(lo, hi), b], rfl, bg8.same (Same.new nP'), kp8.trans (Kp.new nP'), free kp8 bg8 nP', upd_same, ⟨Same.new nP' _ _ e1, Same.new nP' _ _ (sT1 _ _ etP), trivial⟩, two (strP_of hb.2.2.2.1 hb.2.1 hb.2.2.2.2) gb, by simp, by simp, fun m => by rw [cov_two]; exact ⟨fun h => h.elim (covP_sub hb.1 hb.2.2.1) id, Or.inr⟩⟩
        · exact ⟨P, ws, xs, rfl, bgP, kpP, nP1, hP, pdP, gP, l1, l2, cvP⟩
      clear bgP kpP nP1 hP pdP gP l1 l2 cvP etP
      rintro σ' H7 ⟨P, ws, xs, rfl, bgP, kpP, nP1, hP, pdP, gP, l1, l2, cvP⟩
      have etP := kpP _ _ ntp et
      have hf7 := kpP _ _ nfp hf
      have pdq7 : Pd H7 us qs := Pd.kp kpP (fun xs z => by obtain ⟨ys, h⟩ := bg1.lst; rw [h] at z; cases z) pdq
      have c1 := cutV_length (us.map V.ref) none (some pl)
      have c2 := cutV_length (ws.map V.ref) none (some 1)
      have c3 := cutV_length (us.map V.ref) (some pl) none
      have c4 := cutV_length (ws.map V.ref) (some 1) none
      have lw := pdP.len
      rw [List.length_map] at c1 c2 c3 c4
      refine ⟨fun σ' H' => ∃ f' us' qs', σ' = [some (.ref p), some (.ref s), some (endsV z), some (.ref f'), some (.ref t), some (.int pl), some (.int kd), some (.int cu), some (.int ag), some (.ref P), y10] ∧ BagAt H' p (c + 20 * (i : Int) + 8) ∧ Kp p H1 H' ∧ H1 f' = none ∧ H' f' = some (.lst (us'.map V.ref)) ∧ Pd H' us' qs' ∧ (∀ x ∈ qs', strP x = true) ∧ qs'.length ≤ 3 * i + 2 ∧ ∀ m, cov z qs' m ↔ cov z qs m ∨ covP z b m, ?_, ?_⟩
      · refine ⟨_, rfl, _, rfl, _, rfl, f, _, rfl, SqL.hp hf7, fun a1 n1 => ?_⟩
        have s1 := Same.new (o := .lst (cutV (us.map V.ref) none (some pl))) n1
        refine ⟨_, rfl, _, rfl, P, _, rfl, SqL.hp (s1 _ _ hP), fun a2 n2 => ?_⟩
        have s2 := Same.new (o := .lst (cutV (ws.map V.ref) none (some 1))) n2
        refine ⟨a1, a2, _, _, rfl, rfl, s2 _ _ upd_same, upd_same, Nat.le_of_lt (small1000 (by omega)), fun a3 n3 => ?_⟩
        have s3 := Same.new (o := .lst (cutV (us.map V.ref) none (some pl) ++ cutV (ws.map V.ref) none (some 1))) n3
        have s13 := s1.trans (s2.trans s3)
        refine ⟨_, rfl, _, rfl, _, rfl, f, _, rfl, SqL.hp (s13 _ _ hf7), fun a4 n4 => ?_⟩
        have s4 := Same.new (o := .lst (cutV (us.map V.ref) (some pl) none)) n4
        refine ⟨a3, a4, _, _, rfl, rfl, s4 _ _ upd_same, upd_same, Nat.le_of_lt (small1000 (by rw [List.length_append]; omega)), fun a5 n5 => ?_⟩
        have s5 := Same.new (o := .lst (cutV (us.map V.ref) none (some pl) ++ cutV (ws.map V.ref) none (some 1) ++ cutV (us.map V.ref) (some pl) none)) n5
        have s15 := s13.trans (s4.trans s5)
        refine ⟨_, rfl, _, rfl, P, _, rfl, SqL.hp (s15 _ _ hP), fun a6 n6 => ?_⟩
        have s6 := Same.new (o := .lst (cutV (ws.map V.ref) (some 1) none)) n6
        refine ⟨a5, a6, _, _, rfl, rfl, s6 _ _ upd_same, upd_same, Nat.le_of_lt (small1000 (by rw [List.length_append, List.length_append]; omega)), fun a7 n7 => ?_⟩
        have s16 := s15.trans s6
        have kp16 := kpP.trans (Kp.same (p := p) s16)
        have bg16 := bgP.same s16
        have s17 := s16.trans (Same.new (o := .lst (cutV (us.map V.ref) none (some pl) ++ cutV (ws.map V.ref) none (some 1) ++ cutV (us.map V.ref) (some pl) none ++ cutV (ws.map V.ref) (some 1) none)) n7)
        refine ⟨a7, us.take pl.toNat ++ ws.take 1 ++ us.drop pl.toNat ++ ws.drop 1, qs.take pl.toNat ++ xs.take 1 ++ qs.drop pl.toNat ++ xs.drop 1, rfl, bgP.same s17, kpP.trans (Kp.same s17), free kp16 bg16 n7, ?_, ?_, ?_, ?_, ?_⟩
        · rw [upd_same, cut_to (n := pl.toNat) (by omega), cut_to (i := 1) (n := 1) rfl, cut_from (n := pl.toNat) (by omega), cut_from (i := 1) (n := 1) rfl, List.map_append, List.map_append, List.map_append]
        · exact Pd.app (Pd.app (Pd.app ((pdq7.same s17).take _) ((pdP.same s17).take _)) ((pdq7.same s17).drop _)) ((pdP.same s17).drop _)
        · intro x hx
          rcases List.mem_append.mp hx with hx | hx
          · rcases List.mem_append.mp hx with hx | hx
            · rcases List.mem_append.mp hx with hx | hx
              · exact hgq x (List.mem_of_mem_take hx)
              · exact gP x (List.mem_of_mem_take hx)
            · exact hgq x (List.mem_of_mem_drop hx)
          · exact gP x (List.mem_of_mem_drop hx)
        · simp only [List.length_append, List.length_take, List.length_drop]
          omega
        · intro m
          rw [cov_mix, cvP m]
      rintro σ' H8 ⟨f', us', qs', rfl, bg8, kp8, nf', hf', pd', gq', lq', cv'⟩
      have nfp' : f' ≠ p := bag_not_refs bg8 hf'
      have nfH' : H f' = none := by
        cases e : H f' with
        | none => rfl
        | some o => rw [kp1 _ _ nfp' e] at nf'; cases nf'
      have kpH8 := kp1.trans kp8
      have lu' := pd'.len
      refine ⟨_, rfl, endsV_scalH z, _, rfl, ?_⟩
      rw [endsV_half]
      cases z with
      | true => exact iteF (iteF ⟨f', us', qs', _, _, _, _, _, _, _, rfl, bg8.mono (by omega), kpH8, nfH', hf', pd', gq', by omega, fun m => by rw [cov_take_more hb, cv' m, cvq m]⟩)
      | false =>
        refine iteT ⟨_, rfl, p, 3, _, rfl, bg8, by omega, by omega, by omega, fun k2 H9 k20 k21 bg9 bt9 => ⟨rfl, _, rfl, ?_⟩⟩
        have hf9 : H9 f' = some (.lst (us'.map V.ref)) := (bt9 f' nfp').trans hf'
        have pd9 : Pd H9 us' qs' := Pd.kp bt9.kp (fun xs z => by obtain ⟨ys, h⟩ := bg8.lst; rw [h] at z; cases z) pd'
        have kpH9 := kpH8.trans bt9.kp
        refine ite2 (fun ck => ?_) (fun ck => ?_)
        · refine ⟨_, rfl, p, _, rfl, bg9, by omega, fun x H10 x0 x1 bg10 bt10 => ?_⟩
          have hf10 : H10 f' = some (.lst (us'.map V.ref)) := (bt10 f' nfp').trans hf9
          have pd10 : Pd H10 us' qs' := Pd.kp bt10.kp (fun xs z => by obtain ⟨ys, h⟩ := bg9.lst; rw [h] at z; cases z) pd9
          have kpH10 := kpH9.trans bt10.kp
          refine ⟨_, rfl, .inl ⟨rfl, _, SqL.hp hf10⟩, _, rfl, _, rfl, (by show 2 ≤ sizeLine; decide), fun T nT => ?_⟩
          have nfT : f' ≠ T := ne_of_none hf10 nT
          have npT : p ≠ T := by obtain ⟨ys, h⟩ := bg10.lst; exact ne_of_none h nT
          refine ⟨f', _, _, rfl, rfl, (upd_ne nfT).trans hf10, ?_, ?_⟩
          · rw [List.length_map]
            exact small1000 (by omega)
          · refine ⟨f', us' ++ [T], qs' ++ [(x, x)], _, _, _, _, _, _, _, rfl, ?_, ?_, nfH', ?_, ?_, ?_, ?_, ?_⟩
            · have b11 := bag_kp (bg10.same (Same.new (o := .tup [.int x, .int x]) nT)) (Kp.at_ (p := f') (o := .lst (us'.map V.ref ++ [.ref T]))) (Ne.symm nfp')
              exact b11.mono (by omega)
            · intro b' o nb hb'
              have h10 := kpH10 b' o nb hb'
              rw [upd_ne (ne_of_none hb' nfH'), upd_ne (ne_of_none h10 nT)]
              exact h10
            · rw [upd_same, List.map_append]; rfl
            · have kpf : Kp f' H10 (upd (upd H10 T (.tup [.int x, .int x])) f' (.lst (us'.map V.ref ++ [.ref T]))) := (Kp.new nT).trans Kp.at_
              refine Pd.app (Pd.kp kpf (fun xs z => by rw [hf10] at z; cases z) pd10) ⟨?_, trivial⟩
              rw [upd_ne (Ne.symm nfT), upd_same]
            · intro w hw
              rcases List.mem_append.mp hw with hw | hw
              · exact gq' w hw
              · obtain rfl : w = (x, x) := by simpa using hw
                exact strP_of x0 (Int.le_refl _) x1
            · rw [List.length_append]
              show qs'.length + 1 ≤ 3 * (i + 1)
              omega
            · intro m
              rw [cov_app, cov_single, cov_take_more hb, cv' m, cvq m]
              exact ⟨fun h => h.elim id fun h => absurd h (emp_cov (by show decide (x ≤ x) = true; exact decide_eq_true (Int.le_refl _)) m), Or.inl⟩
        · exact ⟨f', us', qs', _, _, _, _, _, _, _, rfl, bg9.mono (by omega), kpH9, nfH', hf9, pd9, gq', by omega, fun m => by rw [cov_take_more hb, cv' m, cvq m]⟩
    · rintro σ H1 ⟨f, us, qs, y4, y5, y6, y7, y8, y9, y10, rfl, bg1, kp1, nfH, hf, pdq, hgq, lq, cvq⟩
      rw [List.length_map, pd.len] at lq cvq bg1
      rw [List.take_length] at cvq
      exact ⟨_, rfl, q f us qs H1 nfH hf pdq hgq (by omega) cvq (bg1.mono (by omega)) kp1⟩
end
/-! _law_has_all -/
abbrev s_l_has_all : Stmt := topS 25
abbrev sc_l_has_all_N : List Str := ["_law_pairs", "_law_span", "_law_ends", "_law_pair"]
theorem sc_l_has_all : FnScope sc_l_has_all_N ["_law_pairs", "_law_span", "_law_ends"] (defScope s_l_has_all) := ⟨rfl, rfl, rfl, by decide +kernel, rfl, by decide +kernel, by decide +kernel⟩
def sp_l_has_all (K : PySem.W.Frag) : Sp := fun vs H Q _ => ∃ (a t : Addr) (ts : List Addr) (ps : List Pr) (s : Pr) (z : Bool), vs = [.ref a, .ref t, endsV z] ∧ SqL K H a (ts.map V.ref) ∧ Pd H ts ps ∧ SqT K H t [.int s.1, .int s.2] ∧ ps.length ≤ 500 ∧ ∀ H', Same H H' → Q (.bl (hasAll z ps s)) H'
section
variable {P : Program} {w : World} {K : PySem.W.Frag} {mg : Str → Option Value} {bh : Heap}
theorem ok_l_has_all {f : Addr} {fd : FuncData}  (B : Blt mg) (T : Txt K mg)  (F : Fun K "_law_has_all" "_law_has_all" s_l_has_all f fd) : FnOk P w K mg bh CX0 1 f fd ["_law_pairs", "_law_span", "_law_ends"] (sp_l_has_all K) := by
  refine F.ok sc_l_has_all (fun vs H Q E h => ?_) (fun cdv A outer s H vs Q E hr h => ?_)
  · obtain ⟨a, t, ts, ps, s, z, rfl, _⟩ := h
    rfl
  · obtain ⟨a, t, ts, ps, s, z, rfl, sq, pd, st, hl, q⟩ := h
    refine ⟨_, (pss_mid (ps_if (PW.pt (pw_and (pt_cmpR op_eq (pv 2) pe_str (nomark _)) (pw_and1 (pt_cmpR op_eq (pe_ix (ix_tupK (K := K)) (pv 1) pe_int (fun _ _ => rfl)) (pe_ix (ix_tupK (K := K)) (pv 1) pe_int (fun _ _ => rfl)) (nomark _)))))
      (pss_one (ps_ret pe_bl))
      pss_nil)
      (pss_one (ps_ret (pe_cmpR (op_neD hr.units) (pe_lc (own := [("_law_pair", 3)]) (by rfl) sc_l_has_all.nd (pi_sq (pv 0)) (blkOk_by (own := [("_law_pair", 3)]) (N := sc_l_has_all_N) (sc := defScope s_l_has_all) (by decide +kernel)) (fun _ _ _ _ _ => (pg_name (i := 3) sc_l_has_all.nd rfl (Or.inl rfl))) (fun _ _ _ _ _ => (pts_one (PW.pt (pw_and (pt_cmpR op_le (pe_ix (ix_tupK (K := K)) (pv 3) pe_int (fun _ _ => rfl)) (pe_ix (ix_tupK (K := K)) (pv 1) pe_int (fun _ _ => rfl)) (nomark _)) (pw_and1 (pt_cmpR op_le (pe_ix (ix_tupK (K := K)) (pv 1) pe_int (fun _ _ => rfl)) (pe_ix (ix_tupK (K := K)) (pv 3) pe_int (fun _ _ => rfl)) (nomark _))))))) (fun _ _ _ _ _ => (pv 3))) (pe_lst pa_nil) (nomark _))))), ?_⟩
    have main : (!z && decide (s.1 = s.2)) = false → ∀ H', Same H H' → Q (.bl (ps.any fun p => decide (p.1 ≤ s.1) && decide (s.2 ≤ p.2))) H' := fun e H' s' => by
      have z1 := q H' s'
      unfold hasAll at z1
      rw [e, Bool.false_or] at z1
      exact z1
    have yes : (!z && decide (s.1 = s.2)) = true → Q (.bl true) H := fun e => by
      have z1 := q H (Same.refl H)
      unfold hasAll at z1
      rw [e, Bool.true_or] at z1
      exact z1
    refine ⟨fun σ' H' => σ' = [some (.ref a), some (.ref t), some (endsV z), none] ∧ H' = H ∧ (!z && decide (s.1 = s.2)) = false, ?_, ?_⟩
    · refine ⟨_, rfl, endsV_scalH z, _, rfl, ?_⟩
      rw [endsV_half]
      cases z with
      | true => exact iteF (iteF ⟨rfl, rfl, rfl⟩)
      | false =>
        refine iteT ⟨_, rfl, t, _, 0, _, rfl, rfl, st, rfl, _, rfl, t, _, 1, _, rfl, rfl, st, rfl, rfl, _, rfl, ?_⟩
        refine ite2 (fun c => ?_) (fun c => ?_)
        · exact yes (by rw [decide_eq_true (V.int.inj (of_decide_eq_true c))]; rfl)
        · refine ⟨rfl, rfl, ?_⟩
          rw [decide_eq_false (fun z => c (decide_eq_true (congrArg V.int z)))]; rfl
    rintro σ' H0 ⟨rfl, rfl, e0⟩
    refine ⟨_, rfl, a, _, rfl, .inl sq, fun J wk D nD => ?_⟩
    refine lc_it wk (fun i H' => ∃ us, Same H0 H' ∧ H' D = some (.lst (us.map V.ref)) ∧ Pd H' us ((ps.take i).filter fun p => decide (p.1 ≤ s.1) && decide (s.2 ≤ p.2))) ⟨[], Same.new nD, upd_same, trivial⟩ (fun i H' _ h => sameK h.choose_spec.1) ?_ ?_
    · rintro i x H3 H4 hi ⟨us, ss, hD, pu⟩ ⟨rfl, hx⟩
      obtain ⟨t', ht, rfl⟩ := map_get hx
      obtain ⟨p, hp, et0⟩ := Pd.get pd ht
      have et := ss _ _ et0
      have st4 := sameT ss st
      have lu := pu.len
      have lf : ((ps.take i).filter fun p => decide (p.1 ≤ s.1) && decide (s.2 ≤ p.2)).length ≤ ps.length := Nat.le_trans (List.length_filter_le ..) (List.length_take_le' ..)
      have no : (decide (p.1 ≤ s.1) && decide (s.2 ≤ p.2)) = false → ∃ us, Same H0 H4 ∧ H4 D = some (.lst (us.map V.ref)) ∧ Pd H4 us ((ps.take (i + 1)).filter fun p => decide (p.1 ≤ s.1) && decide (s.2 ≤ p.2)) := fun e => by
        refine ⟨us, ss, hD, ?_⟩
        rw [take_more hp, List.filter_append, show List.filter (fun p => decide (p.1 ≤ s.1) && decide (s.2 ≤ p.2)) [p] = [] from List.filter_cons_of_neg (p := fun (p : Pr) => decide (p.1 ≤ s.1) && decide (s.2 ≤ p.2)) (by rw [e]; decide), List.append_nil]
        exact pu
      refine ⟨rfl, ?_⟩
      refine ⟨_, rfl, t', _, 0, _, rfl, rfl, SqT.hp et, rfl, _, rfl, t, _, 0, _, rfl, rfl, st4, rfl, _, _, rfl, rfl, _, rfl, ?_⟩
      refine ite2 (fun c1 => ?_) (fun c1 => ?_)
      · refine ⟨_, rfl, t, _, 1, _, rfl, rfl, st4, rfl, _, rfl, t', _, 1, _, rfl, rfl, SqT.hp et, rfl, _, _, rfl, rfl, _, rfl, ?_⟩
        refine ite2 (fun c2 => ?_) (fun c2 => ?_)
        · have nDt : D ≠ t' := ne_of hD et (fun z => nomatch z)
          refine ⟨_, rfl, us.map V.ref, hD, ?_, us ++ [t'], ?_, ?_, ?_⟩
          · rw [List.length_map]
            exact small1000 (by omega)
          · intro b o hb
            rw [upd_ne (ne_of_none hb nD)]
            exact ss _ _ hb
          · rw [upd_same, List.map_append]; rfl
          · rw [take_more hp, List.filter_append, show List.filter (fun p => decide (p.1 ≤ s.1) && decide (s.2 ≤ p.2)) [p] = [p] from List.filter_cons_of_pos (p := fun (p : Pr) => decide (p.1 ≤ s.1) && decide (s.2 ≤ p.2)) (by rw [c1, c2]; rfl)]
            refine Pd.app (Pd.kp (Kp.at_ (p := D)) (fun xs z => by rw [hD] at z; cases z) pu) ⟨?_, trivial⟩
            rw [upd_ne (Ne.symm nDt)]
            exact et
        · exact no (by rw [Bool.eq_false_iff.mpr c2, Bool.and_false])
      · exact iteF (no (by rw [Bool.eq_false_iff.mpr c1, Bool.false_and]))
    · rintro H3 ⟨us, ss, hD, pu⟩
      rw [List.length_map, pd.len, List.take_length] at pu
      refine ⟨Nat.zero_le _, fun L nL => ?_⟩
      have sL := Same.new (o := .lst []) nL
      refine ⟨_, .list [], .lst (SqL.hp (sL _ _ hD)) (pu.same sL).dp, .lst (SqL.hp upd_same) .nil, shapedPs _, shapedNil, ?_⟩
      rw [eqvNil, any_filter]
      exact main e0 _ (ss.trans sL)
end
/-! _law_right -/
abbrev s_l_right : Stmt := topS 26
abbrev sc_l_right_N : List Str := ["_law_bag_here", "_law_spans", "_law_ends", "_law_other_here", "_law_told", "_law_pair", "_law_more", "_law_is_same"]
theorem sc_l_right : FnScope sc_l_right_N ["_law_bag_here", "_law_spans", "_law_ends"] (defScope s_l_right) := ⟨rfl, rfl, rfl, by decide +kernel, rfl, by decide +kernel, by decide +kernel⟩
def sp_l_right (K : PySem.W.Frag) : Sp := fun vs H Q _ => ∃ (p s : Addr) (ts : List Addr) (ps : List Pr) (z : Bool) (c : Int), vs = [.ref p, .ref s, endsV z] ∧ BagAt H p c ∧ c ≤ 100000 ∧ H s = some (.lst (ts.map V.ref)) ∧ Pd H ts ps ∧ (∀ x ∈ ps, strP x = true) ∧ ps.length ≤ 20 ∧ ∀ H', BagAt H' p (c + 600) → Kp p H H' → Q (.bl true) H'
section
variable {P : Program} {w : World} {K : PySem.W.Frag} {mg : Str → Option Value} {bh : Heap}
theorem ok_l_right {f : Addr} {fd : FuncData} {f_l_other : Addr} {fd_l_other : FuncData} {f_union : Addr} {fd_union : FuncData} {f_l_stretch : Addr} {fd_l_stretch : FuncData} {f_l_has_all : Addr} {fd_l_has_all : FuncData} {f_in_one_form : Addr} {fd_in_one_form : FuncData} {f_is_empty : Addr} {fd_is_empty : FuncData} (B : Blt mg) (T : Txt K mg) (R_l_other : Rdy P w K mg bh "_law_other" 3 ["_law_bag_here", "_law_spans", "_law_ends"] (sp_l_other K) f_l_other fd_l_other) (R_union : RdyD P w K mg bh "union" 6 ["spans", "ends"] [.str "half"] (sp_union K) f_union fd_union) (R_l_stretch : Rdy P w K mg bh "_law_stretch" 3 ["_law_bag_here"] (sp_l_stretch K) f_l_stretch fd_l_stretch) (R_l_has_all : Rdy P w K mg bh "_law_has_all" 1 ["_law_pairs", "_law_span", "_law_ends"] (sp_l_has_all K) f_l_has_all fd_l_has_all) (R_in_one_form : RdyD P w K mg bh "in_one_form" 7 ["spans", "ends"] [.str "half"] (sp_in_one_form K) f_in_one_form fd_in_one_form) (R_is_empty : RdyD P w K mg bh "is_empty" 2 ["pair", "ends"] [.str "half"] (sp_is_empty K) f_is_empty fd_is_empty) (F : Fun K "_law_right" "_law_right" s_l_right f fd) : FnOk P w K mg bh CX0 8 f fd ["_law_bag_here", "_law_spans", "_law_ends"] (sp_l_right K) := by
  refine F.ok sc_l_right (fun vs H Q E h => ?_) (fun cdv A outer s H vs Q E hr h => ?_)
  · obtain ⟨p, s, ts, ps, z, c, rfl, _⟩ := h
    rfl
  · obtain ⟨p, s, ts, ps, z, c, rfl, bg, hc, hs, pd, hst, hln, q⟩ := h
    refine ⟨_, (pss_cons (ps_set (i := 3) sc_l_right.nd rfl (Or.inl rfl) (pe_rdy R_l_other hr (by decide) (by rfl) (pa_cons (pv 0) (pa_cons (pv 1) (pa_cons (pv 2) pa_nil)))))
      (pss_cons (ps_set (i := 4) sc_l_right.nd rfl (Or.inl rfl) (pe_rdyD R_union hr (by decide) (by rfl) (pa_cons (pv 1) (pa_cons (pv 2) pa_nil))))
      (pss_cons (ps_if (PW.pt (pw_or (pt_cmpR (op_neD hr.units) (pe_rdyD R_union hr (by decide) (by rfl) (pa_cons (pv 3) (pa_cons (pv 2) pa_nil))) (pv 4) (nomark _)) (pw_or (pt_cmpR op_isnot_bl (pe_rdyD R_in_one_form hr (by decide) (by rfl) (pa_cons (pv 4) (pa_cons (pv 2) pa_nil))) pe_bl (nomark _)) (pw_or1 (pt_cmpR (op_neD hr.units) (pe_rdyD R_union hr (by decide) (by rfl) (pa_cons (pv 4) (pa_cons (pv 2) pa_nil))) (pv 4) (nomark _))))))
      (pss_one (ps_ret pe_bl))
      pss_nil)
      (pss_cons (ps_if (PW.pt (pw_or (pt_cmpR (op_neD hr.units) (pe_rdyD R_union hr (by decide) (by rfl) (pa_cons (pe_op op_cat (pv 1) (pv 3)) (pa_cons (pv 2) pa_nil))) (pv 4) (nomark _)) (pw_or1 (pt_cmpR (op_neD hr.units) (pe_rdyD R_union hr (by decide) (by rfl) (pa_cons (pe_op op_cat (pv 4) (pv 1)) (pa_cons (pv 2) pa_nil))) (pv 4) (nomark _)))))
      (pss_one (ps_ret pe_bl))
      pss_nil)
      (pss_cons (ps_for PassesOwn.never rfl (pi_list (pv 4)) (pg_name (i := 5) sc_l_right.nd rfl (Or.inl rfl))
      (pss_one (ps_if (pt_cmpR op_isnot_bl (pe_rdyD R_is_empty hr (by decide) (by rfl) (pa_cons (pv 5) (pa_cons (pv 2) pa_nil))) pe_bl (nomark _))
      (pss_one (ps_ret pe_bl))
      pss_nil)))
      (pss_cons (ps_set (i := 6) sc_l_right.nd rfl (Or.inl rfl) (pe_rdy R_l_stretch hr (by decide) (by rfl) (pa_cons (pv 0) pa_nil)))
      (pss_cons (ps_set (i := 7) sc_l_right.nd rfl (Or.inl rfl) (pe_cmpR (op_eqD hr.units) (pe_rdyD R_union hr (by decide) (by rfl) (pa_cons (pe_op op_cat (pe_lst (pa_cons (pv 6) pa_nil)) (pv 3)) (pa_cons (pv 2) pa_nil))) (pv 4) (nomark _)))
      (pss_one (ps_ret (pe_cmpR op_eq (pv 7) (pe_rdy R_l_has_all hr (by decide) (by rfl) (pa_cons (pv 4) (pa_cons (pv 6) (pa_cons (pv 2) pa_nil)))) (nomark _))))))))))), ?_⟩
    have nsp : s ≠ p := bag_not_refs bg hs
    refine ⟨_, rfl, _, rfl, _, rfl, p, s, ts, ps, z, c, rfl, bg, by omega, hs, pd, hst, hln, fun r us qs H1 nr hr1 pq hgq lq cv bg1 kp1 => ?_⟩
    have hs1 := kp1 _ _ nsp hs
    have pd1 : Pd H1 ts ps := Pd.kp kp1 (fun xs z => by obtain ⟨ys, h⟩ := bg.lst; rw [h] at z; cases z) pd
    refine ⟨_, rfl, _, rfl, s, ts, ps, z, rfl, .inl (SqL.hp hs1), pd1, hst, by omega, fun u vs H2 nu hu pv2 s2 => ?_⟩
    have lt := union_len z ps
    have gt : ∀ x ∈ unionM z ps, strP x = true := union_keeps (G := fun p => strP p = true) (fun c p hc hp e => strP_ext hc hp e) hst
    have o1 := union_one z ps
    have e1 : unionM z qs = unionM z ps := union_eq_iff.mpr cv
    have ne : ∀ {l k : List Pr}, l = k → (!PyData.eqv (.list (l.map prD)) (.list (k.map prD))) = false := fun {l k} e => by rw [eqvPs, decide_eq_true e]; rfl
    -- union(other) != told
    refine ⟨_, rfl, _, rfl, r, us, qs, z, rfl, .inl (SqL.hp (s2 _ _ hr1)), pq.same s2, hgq, by omega, fun u3 vs3 H3 _ hu3 pv3 s3 => ?_⟩
    refine ⟨_, rfl, .list ((unionM z qs).map prD), .list ((unionM z ps).map prD), .lst (SqL.hp hu3) pv3.dp, .lst (SqL.hp (s3 _ _ hu)) (pv2.same s3).dp, shapedPs _, shapedPs _, _, rfl, ?_⟩
    rw [ne e1]
    refine iteF ?_
    have s13 := s2.trans s3
    -- in_one_form(told) is not True
    refine ⟨_, rfl, _, rfl, u, vs, unionM z ps, z, rfl, .inl (SqL.hp (s3 _ _ hu)), pv2.same s3, gt, by omega, fun H4 s4 => ⟨_, _, rfl, rfl, _, rfl, ?_⟩⟩
    rw [o1]
    refine iteF ?_
    have s24 := s3.trans s4
    -- union(told) != told
    refine ⟨_, rfl, _, rfl, u, vs, unionM z ps, z, rfl, .inl (SqL.hp (s24 _ _ hu)), pv2.same s24, gt, by omega, fun u5 vs5 H5 _ hu5 pv5 s5 => ?_⟩
    have s25 := s24.trans s5
    refine ⟨_, rfl, .list ((unionM z (unionM z ps)).map prD), .list ((unionM z ps).map prD), .lst (SqL.hp hu5) pv5.dp, .lst (SqL.hp (s25 _ _ hu)) (pv2.same s25).dp, shapedPs _, shapedPs _, _, rfl, ?_⟩
    rw [ne (union_union z ps)]
    refine iteF ?_
    -- union(spans + other) != told
    have s15 := s2.trans s25
    have lts := pd.len
    have lus := pq.len
    have lvs := pv2.len
    refine ⟨_, rfl, _, rfl, s, r, _, _, rfl, rfl, s15 _ _ hs1, s15 _ _ hr1, Nat.le_of_lt (small1000 (by rw [List.length_map, List.length_map]; omega)), fun a na => ?_⟩
    have sa := Same.new (o := .lst (ts.map V.ref ++ us.map V.ref)) na
    have s1a := s15.trans sa
    refine ⟨_, rfl, a, ts ++ us, ps ++ qs, z, rfl, .inl (SqL.hp (by rw [upd_same, List.map_append])), Pd.app (pd1.same s1a) (pq.same s1a), ?_, by rw [List.length_append]; omega, fun u6 vs6 H6 _ hu6 pv6 s6 => ?_⟩
    · intro x hx
      rcases List.mem_append.mp hx with hx | hx
      · exact hst x hx
      · exact hgq x hx
    have s26 := s25.trans (sa.trans s6)
    have e6 : unionM z (ps ++ qs) = unionM z ps := union_eq_iff.mpr fun m => by rw [cov_app, cv m]; exact or_self_iff
    refine ⟨_, rfl, .list ((unionM z (ps ++ qs)).map prD), .list ((unionM z ps).map prD), .lst (SqL.hp hu6) pv6.dp, .lst (SqL.hp (s26 _ _ hu)) (pv2.same s26).dp, shapedPs _, shapedPs _, _, rfl, ?_⟩
    rw [ne e6]
    refine iteF ?_
    -- union(told + spans) != told
    have s16 := s2.trans s26
    refine ⟨_, rfl, _, rfl, u, s, _, _, rfl, rfl, s26 _ _ hu, s16 _ _ hs1, Nat.le_of_lt (small1000 (by rw [List.length_map, List.length_map]; omega)), fun b nb => ?_⟩
    have sb := Same.new (o := .lst (vs.map V.ref ++ ts.map V.ref)) nb
    have s1b := s16.trans sb
    refine ⟨_, rfl, b, vs ++ ts, unionM z ps ++ ps, z, rfl, .inl (SqL.hp (by rw [upd_same, List.map_append])), Pd.app (pv2.same (s26.trans sb)) (pd1.same s1b), ?_, by rw [List.length_append]; omega, fun u7 vs7 H7 _ hu7 pv7 s7 => ?_⟩
    · intro x hx
      rcases List.mem_append.mp hx with hx | hx
      · exact gt x hx
      · exact hst x hx
    have s27 := s26.trans (sb.trans s7)
    have e7 : unionM z (unionM z ps ++ ps) = unionM z ps := union_eq_iff.mpr fun m => by rw [cov_app, cov_union]; exact or_self_iff
    refine ⟨_, rfl, .list ((unionM z (unionM z ps ++ ps)).map prD), .list ((unionM z ps).map prD), .lst (SqL.hp hu7) pv7.dp, .lst (SqL.hp (s27 _ _ hu)) (pv2.same s27).dp, shapedPs _, shapedPs _, _, rfl, ?_⟩
    rw [ne e7]
    refine iteF ?_
    -- no empty one
    refine ⟨_, rfl, u, rfl, ⟨_, SqL.hp (s27 _ _ hu)⟩, ?_⟩
    refine for_list (K := K) (a := u) (xs := vs.map V.ref) (fun i σ H' => (∃ y5, σ = [some (.ref p), some (.ref s), some (endsV z), some (.ref r), some (.ref u), y5, none, none]) ∧ Same H7 H') ⟨⟨_, rfl⟩, Same.refl _⟩ (fun i σ H' _ h => h.2.seq (SqL.hp (s27 _ _ hu))) ?_ ?_
    · rintro i x σ H8 hx ⟨⟨y5, rfl⟩, s8⟩
      obtain ⟨t, ht, rfl⟩ := map_get hx
      obtain ⟨w, hw, et⟩ := Pd.get pv2 ht
      have ew : emp z w = false := by
        have := oneF_cons_mem o1 (List.mem_of_getElem? hw)
        exact this
      refine ⟨_, rfl, _, rfl, t, w.1, w.2, z, rfl, SqT.hp ((s27.trans s8) _ _ et), fun H9 s9 => ⟨_, _, rfl, rfl, _, rfl, ?_⟩⟩
      rw [show emp z (w.1, w.2) = false from ew]
      exact iteF ⟨⟨_, rfl⟩, s8.trans s9⟩
    · rintro σ H8 ⟨⟨y5, rfl⟩, s8⟩
      have s28 := s27.trans s8
      have s18 := s2.trans s28
      refine ⟨_, rfl, p, _, rfl, bg1.same s18, by omega, fun t x y H9 nt et gxy bg9 kp9 => ?_⟩
      have hu9 := kp9 _ _ (bag_not_refs (bg1.same s18) (s28 _ _ hu)) (s28 _ _ hu)
      have hr9 := kp9 _ _ (bag_not_refs (bg1.same s18) (s18 _ _ hr1)) (s18 _ _ hr1)
      have nb9 : ∀ xs, H8 p ≠ some (.tup xs) := fun xs z => by obtain ⟨ys, h⟩ := (bg1.same s18).lst; rw [h] at z; cases z
      have pv9 : Pd H9 vs (unionM z ps) := Pd.kp kp9 nb9 (pv2.same s28)
      have pq9 : Pd H9 us qs := Pd.kp kp9 nb9 (pq.same s18)
      refine ⟨_, rfl, (by show 1 ≤ sizeLine; decide), fun L nL => ?_⟩
      have sL := Same.new (o := .lst [V.ref t]) nL
      refine ⟨_, rfl, L, r, _, _, rfl, rfl, upd_same, sL _ _ hr9, Nat.le_of_lt (small1000 (by rw [List.length_map]; show 1 + us.length ≤ 1000; omega)), fun M nM => ?_⟩
      have sM := Same.new (o := .lst ([V.ref t] ++ us.map V.ref)) nM
      have s9M := sL.trans sM
      refine ⟨_, rfl, M, t :: us, (x, y) :: qs, z, rfl, .inl (SqL.hp (by rw [upd_same]; rfl)), ⟨s9M _ _ et, pq9.same s9M⟩, ?_, by rw [List.length_cons]; omega, fun u8 vs8 H10 _ hu8 pv8 s10 => ?_⟩
      · intro w hw
        rcases List.mem_cons.mp hw with e | hw
        · exact e ▸ gxy
        · exact hgq w hw
      have s9f := s9M.trans s10
      refine ⟨_, rfl, .list ((unionM z ((x, y) :: qs)).map prD), .list ((unionM z ps).map prD), .lst (SqL.hp hu8) pv8.dp, .lst (SqL.hp (s9f _ _ hu9)) (pv9.same s9f).dp, shapedPs _, shapedPs _, ?_⟩
      refine ⟨_, rfl, _, rfl, _, rfl, _, rfl, u, t, vs, unionM z ps, (x, y), z, rfl, SqL.hp (s9f _ _ hu9), pv9.same s9f, SqT.hp (s9f _ _ et), by omega, fun H11 s11 => ⟨rfl, ?_⟩⟩
      have key : PyData.eqv (.list ((unionM z ((x, y) :: qs)).map prD)) (.list ((unionM z ps).map prD)) = hasAll z (unionM z ps) (x, y) := by
        rw [eqvPs, Bool.eq_iff_iff, decide_eq_true_eq, hasAll_iff o1 (strP_le gxy), union_eq_iff]
        constructor
        · intro h m hm
          rw [cov_union]
          exact (h m).mp (cov_cons.mpr (.inl hm))
        · intro h m
          rw [cov_cons, cv m]
          exact ⟨fun k => k.elim (fun k => (cov_union z ps m).mp (h m k)) id, Or.inr⟩
      rw [decide_eq_true (congrArg V.bl key)]
      have bgf := (bg9.same (s9f.trans s11)).mono (d := c + 600) (by omega)
      exact q H11 bgf ((kp1.trans (Kp.same s18)).trans (kp9.trans (Kp.same (s9f.trans s11))))
end
/-! law -/
abbrev s_law : Stmt := topS 27
abbrev sc_law_N : List Str := ["_law_script", "_law_at", "_law_bag_here", "_law_spans", "_law_ends", "_law_turn"]
theorem sc_law : FnScope sc_law_N ["_law_script"] (defScope s_law) := ⟨rfl, rfl, rfl, by decide +kernel, rfl, by decide +kernel, by decide +kernel⟩
def sp_law (K : PySem.W.Frag) : Sp := fun vs H Q _ => ∃ (a : Addr) (ns : List Int), vs = [.ref a] ∧ SqL K H a (ns.map V.int) ∧ ns.length ≤ 63 ∧ ∀ H', Q (.bl true) H'
section
variable {P : Program} {w : World} {K : PySem.W.Frag} {mg : Str → Option Value} {bh : Heap}
theorem ok_law {f : Addr} {fd : FuncData} {f_l_bag : Addr} {fd_l_bag : FuncData} {f_l_stretch : Addr} {fd_l_stretch : FuncData} {f_l_right : Addr} {fd_l_right : FuncData} {f_l_take : Addr} {fd_l_take : FuncData} (B : Blt mg) (T : Txt K mg) (R_l_bag : Rdy P w K mg bh "_law_bag" 1 ["_law_script", "_law_at"] (sp_l_bag K) f_l_bag fd_l_bag) (R_l_stretch : Rdy P w K mg bh "_law_stretch" 3 ["_law_bag_here"] (sp_l_stretch K) f_l_stretch fd_l_stretch) (R_l_right : Rdy P w K mg bh "_law_right" 8 ["_law_bag_here", "_law_spans", "_law_ends"] (sp_l_right K) f_l_right fd_l_right) (R_l_take : Rdy P w K mg bh "_law_take" 1 ["_law_bag_here", "_law_many"] (sp_l_take K) f_l_take fd_l_take) (F : Fun K "law" "law" s_law f fd) : FnG P w K mg bh 9 f fd ["_law_script"] (sp_law K) := by
  refine Fun.okG F sc_law (fun vs H Q E h => ?_) (fun cdv A outer s H vs Q E gd hr h => ?_)
  · obtain ⟨a, ns, rfl, _⟩ := h
    rfl
  · obtain ⟨a, ns, rfl, hS, hn, q⟩ := h
    refine ⟨_, (pss_cons (ps_for PassesOwn.never rfl (pi_range1 (by rfl) B.b_range (pa_cons (pe_callB (call_max2 rfl) (by rfl) B.b_max (by decide +kernel) (pa_cons pe_int (pa_cons (pe_callB (call_min2 rfl) (by rfl) B.b_min (by decide +kernel) (pa_cons (pe_callB call_len_seq (by rfl) B.b_len (by decide +kernel) (pa_cons (pv 0) pa_nil)) (pa_cons pe_int pa_nil))) pa_nil))) pa_nil)) (pg_name (i := 1) sc_law.nd rfl (Or.inl rfl))
      (pss_cons (ps_set (i := 2) sc_law.nd rfl (Or.inr rfl) (pe_rdy R_l_bag hr (by decide) (by rfl) (pa_cons (pv 0) (pa_cons (pv 1) pa_nil))))
      (pss_cons (ps_setLc (i := 3) (own := [("_law_turn", 5)]) (by rfl) sc_law.nd rfl rfl (sw_true rfl rfl rfl (by decide +kernel)) (pi_range1 (by rfl) B.b_range (pa_cons (pe_rdy R_l_take hr (by decide) (by rfl) (pa_cons (pv 2) (pa_cons pe_int pa_nil))) pa_nil)) (blkOk_by (own := [("_law_turn", 5)]) (N := sc_law_N) (sc := defScope s_law) (by decide +kernel)) (fun _ _ _ _ _ => (pg_name (i := 5) sc_law.nd rfl (Or.inl rfl))) (fun _ _ _ _ _ => pts_nil) (fun _ _ _ _ _ => (pe_rdy R_l_stretch hr (by decide) (by rfl) (pa_cons (pv 2) pa_nil))))
      (pss_one (ps_for PassesOwn.never rfl (pi_list (pe_lst (pa_cons pe_str (pa_cons pe_str pa_nil)))) (pg_name (i := 4) sc_law.nd rfl (Or.inl rfl))
      (pss_one (ps_if (pt_not (pt_val (pe_rdy R_l_right hr (by decide) (by rfl) (pa_cons (pv 2) (pa_cons (pe_callTy call_list_of (by rfl) B.b_list (by decide +kernel) (pa_cons (pv 3) pa_nil)) (pa_cons (pv 4) pa_nil))))))
      (pss_one (ps_ret pe_bl))
      pss_nil)))))))
      (pss_one (ps_ret pe_bl))), ?_⟩
    refine ⟨_, rfl, a, _, rfl, .inl hS, _, _, rfl, _, _, rfl, ?_⟩
    rw [List.length_map]
    obtain ⟨N, eN⟩ : ∃ N : Int, (if (if (40 : Int) < (ns.length : Int) then (40 : Int) else (ns.length : Int)) > 1 then (if (40 : Int) < (ns.length : Int) then (40 : Int) else (ns.length : Int)) else 1) = N := ⟨_, rfl⟩
    have hN : 1 ≤ N ∧ N ≤ 40 := by
      subst eN
      (repeat' split) <;> omega
    refine ⟨N, by rw [← eN], by omega, by omega, ?_⟩

    refine for_range (lo := 0) (n := N.toNat) (fun i σ H' => (∃ y1 y2 y3 y4 y5, σ = [some (.ref a), y1, y2, y3, y4, y5]) ∧ Same H H') ⟨⟨_, _, _, _, _, rfl⟩, Same.refl H⟩ ?_ ?_
    · rintro i σ H5 hi ⟨⟨y1, y2, y3, y4, y5, rfl⟩, s5⟩
      refine ⟨_, rfl, _, rfl, a, ns, _, rfl, s5.seq hS, by omega, by omega, fun p H6 np bg6 bt6 => ?_⟩
      refine ⟨_, rfl, p, 11, _, rfl, bg6, by omega, by omega, by omega, fun n H7 n0 n1 bg7 bt7 => ⟨n, rfl, by omega, by omega, fun D nD => ?_⟩⟩
      have npD : p ≠ D := by obtain ⟨ys, h⟩ := bg7.lst; exact ne_of_none h nD
      refine lc_it (walk_range (lo := 0) (n := n.toNat)) (fun j H' => ∃ us qs, BagAt H' p (1 + 8 * (j : Int)) ∧ Kp p H7 H' ∧ H' D = some (.lst (us.map V.ref)) ∧ Pd H' us qs ∧ (∀ x ∈ qs, strP x = true) ∧ qs.length = j) ⟨[], [], (bg7.same (Same.new nD)).mono (by omega), Kp.new nD, upd_same, trivial, fun x hx => absurd hx List.not_mem_nil, rfl⟩ (fun _ _ _ _ => trivial) ?_ ?_
      · rintro j x Ha Hb hj ⟨us, qs, bgx, kpx, hD, pdx, gx, lx⟩ ⟨rfl, rfl⟩
        have lu := pdx.len
        refine ⟨rfl, ?_⟩
        refine ⟨_, rfl, p, _, rfl, bgx, by omega, fun t b e Hc nt et gd' bgc kpc => ?_⟩
        have hDc := kpc _ _ (Ne.symm npD) hD
        have nDt : D ≠ t := ne_of hDc et (fun z => nomatch z)
        have pdc : Pd Hc us qs := Pd.kp kpc (fun xs z => by obtain ⟨ys, h⟩ := bgx.lst; rw [h] at z; cases z) pdx
        refine ⟨us.map V.ref, hDc, ?_, us ++ [t], qs ++ [(b, e)], ?_, ?_, ?_, ?_, ?_, ?_⟩
        · rw [List.length_map]
          exact small1000 (by omega)
        · exact (bag_kp bgc (Kp.at_ (p := D)) npD).mono (by omega)
        · intro b' o nb hb'
          rw [upd_ne (ne_of_none hb' nD)]
          exact kpc _ _ nb (kpx _ _ nb hb')
        · rw [upd_same, List.map_append]; rfl
        · refine Pd.app (Pd.kp (Kp.at_ (p := D)) (fun xs z => by rw [hDc] at z; cases z) pdc) ⟨?_, trivial⟩
          rw [upd_ne (Ne.symm nDt)]
          exact et
        · intro w hw
          rcases List.mem_append.mp hw with hw | hw
          · exact gx w hw
          · exact (List.mem_singleton.mp hw) ▸ gd'
        · rw [List.length_append, lx]; rfl
      · rintro H8 ⟨us, qs, bg8, kp8, hD, pd8, g8, l8⟩
        refine ⟨(by show 2 ≤ sizeLine; decide), fun m nm => ⟨m, rfl, ⟨_, SqL.hp upd_same⟩, ?_⟩⟩
        have sm : Same H8 (upd H8 m (.lst [.str "half", .str "shut"])) := Same.new nm
        have hm9 : (upd H8 m (.lst [.str "half", .str "shut"])) m = some (.lst [.str "half", .str "shut"]) := upd_same
        have kp09 : Kp p H6 (upd H8 m (.lst [.str "half", .str "shut"])) := (bt7.kp.trans kp8).trans (Kp.same sm)
        have npm : p ≠ m := by obtain ⟨ys, h⟩ := bg8.lst; exact ne_of_none h nm
        generalize upd H8 m (.lst [.str "half", .str "shut"]) = H9 at *
        have hD9 := sm _ _ hD
        have pd9 := pd8.same sm
        have bg9 := bg8.same sm
        refine for_list (K := K) (a := m) (xs := [.str "half", .str "shut"]) (fun j σ H' => (∃ y4 y5, σ = [some (.ref a), some (.int (0 + (i : Int))), some (.ref p), some (.ref D), y4, y5]) ∧ BagAt H' p (200 + 700 * (j : Int)) ∧ Kp p H9 H') ⟨⟨_, _, rfl⟩, bg9.mono (by omega), Kp.refl⟩ (fun j σ H' _ h => SqL.hp (h.2.2 _ _ (Ne.symm npm) hm9)) ?_ ?_
        · rintro j x σ H10 hx ⟨⟨z4, z5, rfl⟩, bg10, kp10⟩
          have hj2 : j < 2 := by have := (List.getElem?_eq_some_iff.mp hx).1; exact this
          obtain ⟨z, rfl⟩ := mode_of hx
          have hD10 := kp10 _ _ (Ne.symm npD) hD9
          have pd10 : Pd H10 us qs := Pd.kp kp10 (fun xs z => by obtain ⟨ys, h⟩ := bg9.lst; rw [h] at z; cases z) pd9
          refine ⟨_, rfl, _, rfl, D, _, rfl, .inl (SqL.hp hD10), fun l nl => ?_⟩
          have sl := Same.new (o := .lst (us.map V.ref)) nl
          refine ⟨_, rfl, p, l, us, qs, z, _, rfl, bg10.same sl, by omega, upd_same, pd10.same sl, g8, by omega, fun H11 bg11 kp11 => ⟨_, rfl, iteF ?_⟩⟩
          exact ⟨⟨_, _, rfl⟩, bg11.mono (by omega), kp10.trans ((Kp.same sl).trans kp11)⟩
        · rintro σ H10 ⟨⟨z4, z5, rfl⟩, bg10, kp10⟩
          exact ⟨⟨_, _, _, _, _, rfl⟩, s5.trans (bag_same np bt6 (kp09.trans kp10))⟩
    · rintro σ H5 ⟨⟨y1, y2, y3, y4, y5, rfl⟩, s5⟩
      exact q H5
end
section
theorem all_mk {l : PySem.W.OpenLaw} {w : World} {K : PySem.W.Frag} {h : Heap} {mg : Str → Option Value} {fa : Addr} {t_FIRST : Tok} {t_LAST : Tok} {t_FAR : Tok} {CE : Addr} {tE1 tE2 : Tok} {f_is_number : Addr} {od_is_number an_is_number : Option Addr} {sl_is_number : Array (Option Value)} {oc_is_number kV_is_number dc_is_number pm_is_number cd_is_number ct_is_number : Value} {f_is_edge : Addr} {od_is_edge an_is_edge : Option Addr} {sl_is_edge : Array (Option Value)} {oc_is_edge kV_is_edge dc_is_edge pm_is_edge cd_is_edge ct_is_edge : Value} {f_is_pair : Addr} {od_is_pair an_is_pair : Option Addr} {sl_is_pair : Array (Option Value)} {oc_is_pair kV_is_pair dc_is_pair pm_is_pair cd_is_pair ct_is_pair : Value} {f_is_stretch : Addr} {od_is_stretch an_is_stretch : Option Addr} {sl_is_stretch : Array (Option Value)} {oc_is_stretch kV_is_stretch dc_is_stretch pm_is_stretch cd_is_stretch ct_is_stretch : Value} {f_check_ends : Addr} {od_check_ends an_check_ends : Option Addr} {sl_check_ends : Array (Option Value)} {oc_check_ends kV_check_ends dc_check_ends pm_check_ends cd_check_ends ct_check_ends : Value} {f_check_stretches : Addr} {od_check_stretches an_check_stretches : Option Addr} {sl_check_stretches : Array (Option Value)} {oc_check_stretches kV_check_stretches dc_check_stretches pm_check_stretches cd_check_stretches ct_check_stretches : Value} {f_is_empty : Addr} {od_is_empty an_is_empty : Option Addr} {sl_is_empty : Array (Option Value)} {oc_is_empty kV_is_empty dc_is_empty pm_is_empty cd_is_empty ct_is_empty : Value} {T_is_empty : Addr} {o_is_empty : Obj} {its_is_empty : List Value} {n_is_empty : Nat} {f_join_sorted : Addr} {od_join_sorted an_join_sorted : Option Addr} {sl_join_sorted : Array (Option Value)} {oc_join_sorted kV_join_sorted dc_join_sorted pm_join_sorted cd_join_sorted ct_join_sorted : Value} {f_union : Addr} {od_union an_union : Option Addr} {sl_union : Array (Option Value)} {oc_union kV_union dc_union pm_union cd_union ct_union : Value} {T_union : Addr} {o_union : Obj} {its_union : List Value} {n_union : Nat} {f_in_one_form : Addr} {od_in_one_form an_in_one_form : Option Addr} {sl_in_one_form : Array (Option Value)} {oc_in_one_form kV_in_one_form dc_in_one_form pm_in_one_form cd_in_one_form ct_in_one_form : Value} {T_in_one_form : Addr} {o_in_one_form : Obj} {its_in_one_form : List Value} {n_in_one_form : Nat} {f_l_bag : Addr} {od_l_bag an_l_bag : Option Addr} {sl_l_bag : Array (Option Value)} {oc_l_bag kV_l_bag dc_l_bag pm_l_bag cd_l_bag ct_l_bag : Value} {f_l_take : Addr} {od_l_take an_l_take : Option Addr} {sl_l_take : Array (Option Value)} {oc_l_take kV_l_take dc_l_take pm_l_take cd_l_take ct_l_take : Value} {f_l_edge : Addr} {od_l_edge an_l_edge : Option Addr} {sl_l_edge : Array (Option Value)} {oc_l_edge kV_l_edge dc_l_edge pm_l_edge cd_l_edge ct_l_edge : Value} {f_l_stretch : Addr} {od_l_stretch an_l_stretch : Option Addr} {sl_l_stretch : Array (Option Value)} {oc_l_stretch kV_l_stretch dc_l_stretch pm_l_stretch cd_l_stretch ct_l_stretch : Value} {f_l_inner : Addr} {od_l_inner an_l_inner : Option Addr} {sl_l_inner : Array (Option Value)} {oc_l_inner kV_l_inner dc_l_inner pm_l_inner cd_l_inner ct_l_inner : Value} {f_l_other : Addr} {od_l_other an_l_other : Option Addr} {sl_l_other : Array (Option Value)} {oc_l_other kV_l_other dc_l_other pm_l_other cd_l_other ct_l_other : Value} {f_l_has_all : Addr} {od_l_has_all an_l_has_all : Option Addr} {sl_l_has_all : Array (Option Value)} {oc_l_has_all kV_l_has_all dc_l_has_all pm_l_has_all cd_l_has_all ct_l_has_all : Value} {f_l_right : Addr} {od_l_right an_l_right : Option Addr} {sl_l_right : Array (Option Value)} {oc_l_right kV_l_right dc_l_right pm_l_right cd_l_right ct_l_right : Value} {f_law : Addr} {od_law an_law : Option Addr} {sl_law : Array (Option Value)} {oc_law kV_law dc_law pm_law cd_law ct_law : Value} (X : K.In h) (G : h.Ns mainGlobals mg) (hfa : mg "law" = some (.ref fa))
    (z_abs : PySem.W.nsIn K mainGlobals "abs" = some none)
    (z_bool : PySem.W.nsIn K mainGlobals "bool" = some none)
    (z_enumerate : PySem.W.nsIn K mainGlobals "enumerate" = some none)
    (z_int : PySem.W.nsIn K mainGlobals "int" = some none)
    (z_isinstance : PySem.W.nsIn K mainGlobals "isinstance" = some none)
    (z_len : PySem.W.nsIn K mainGlobals "len" = some none)
    (z_list : PySem.W.nsIn K mainGlobals "list" = some none)
    (z_max : PySem.W.nsIn K mainGlobals "max" = some none)
    (z_min : PySem.W.nsIn K mainGlobals "min" = some none)
    (z_range : PySem.W.nsIn K mainGlobals "range" = some none)
    (z_sorted : PySem.W.nsIn K mainGlobals "sorted" = some none)
    (z_tuple : PySem.W.nsIn K mainGlobals "tuple" = some none)
    (c_FIRST : PySem.W.nsIn K mainGlobals "FIRST" = some (some (.int (-10000000000000000000000000000000) t_FIRST)))
    (c_LAST : PySem.W.nsIn K mainGlobals "LAST" = some (some (.int (10000000000000000000000000000000) t_LAST)))
    (c_FAR : PySem.W.nsIn K mainGlobals "FAR" = some (some (.int (1000000000000000000000000000000) t_FAR)))
    (e_g : PySem.W.nsIn K mainGlobals "Ends" = some (some (.ref CE)))
    (e_rd : PySem.W.readsIn K CE (.type "type") = true)
    (e_ga : PySem.W.specialIn K (.ref CE) "__getattribute__" = some (some (.builtin "type.__getattribute__")))
    (e_1 : PySem.W.findCls K (.ref CE) (.type "type") "HALF" = some (.val (.str "half" tE1)))
    (e_2 : PySem.W.findCls K (.ref CE) (.type "type") "SHUT" = some (.val (.str "shut" tE2)))
    (a_is_number : PySem.W.nsIn K mainGlobals "is_number" = some (some (.ref f_is_number)))
    (l_is_number : K.lookup f_is_number = some ⟨oc_is_number, od_is_number, .func (PySem.W.fnOf "is_number" "is_number" (defArgs s_is_number) (defBody s_is_number) (defScope s_is_number) .none kV_is_number dc_is_number pm_is_number an_is_number cd_is_number ct_is_number), sl_is_number⟩)
    (c_is_number : PySem.W.codeIn K cd_is_number "is_number" = true)
    (k_is_number : PySem.W.keepIn K (.ref f_is_number) = true)
    (a_is_edge : PySem.W.nsIn K mainGlobals "is_edge" = some (some (.ref f_is_edge)))
    (l_is_edge : K.lookup f_is_edge = some ⟨oc_is_edge, od_is_edge, .func (PySem.W.fnOf "is_edge" "is_edge" (defArgs s_is_edge) (defBody s_is_edge) (defScope s_is_edge) .none kV_is_edge dc_is_edge pm_is_edge an_is_edge cd_is_edge ct_is_edge), sl_is_edge⟩)
    (c_is_edge : PySem.W.codeIn K cd_is_edge "is_edge" = true)
    (k_is_edge : PySem.W.keepIn K (.ref f_is_edge) = true)
    (a_is_pair : PySem.W.nsIn K mainGlobals "is_pair" = some (some (.ref f_is_pair)))
    (l_is_pair : K.lookup f_is_pair = some ⟨oc_is_pair, od_is_pair, .func (PySem.W.fnOf "is_pair" "is_pair" (defArgs s_is_pair) (defBody s_is_pair) (defScope s_is_pair) .none kV_is_pair dc_is_pair pm_is_pair an_is_pair cd_is_pair ct_is_pair), sl_is_pair⟩)
    (c_is_pair : PySem.W.codeIn K cd_is_pair "is_pair" = true)
    (k_is_pair : PySem.W.keepIn K (.ref f_is_pair) = true)
    (a_is_stretch : PySem.W.nsIn K mainGlobals "is_stretch" = some (some (.ref f_is_stretch)))
    (l_is_stretch : K.lookup f_is_stretch = some ⟨oc_is_stretch, od_is_stretch, .func (PySem.W.fnOf "is_stretch" "is_stretch" (defArgs s_is_stretch) (defBody s_is_stretch) (defScope s_is_stretch) .none kV_is_stretch dc_is_stretch pm_is_stretch an_is_stretch cd_is_stretch ct_is_stretch), sl_is_stretch⟩)
    (c_is_stretch : PySem.W.codeIn K cd_is_stretch "is_stretch" = true)
    (k_is_stretch : PySem.W.keepIn K (.ref f_is_stretch) = true)
    (a_check_ends : PySem.W.nsIn K mainGlobals "check_ends" = some (some (.ref f_check_ends)))
    (l_check_ends : K.lookup f_check_ends = some ⟨oc_check_ends, od_check_ends, .func (PySem.W.fnOf "check_ends" "check_ends" (defArgs s_check_ends) (defBody s_check_ends) (defScope s_check_ends) .none kV_check_ends dc_check_ends pm_check_ends an_check_ends cd_check_ends ct_check_ends), sl_check_ends⟩)
    (c_check_ends : PySem.W.codeIn K cd_check_ends "check_ends" = true)
    (k_check_ends : PySem.W.keepIn K (.ref f_check_ends) = true)
    (a_check_stretches : PySem.W.nsIn K mainGlobals "check_stretches" = some (some (.ref f_check_stretches)))
    (l_check_stretches : K.lookup f_check_stretches = some ⟨oc_check_stretches, od_check_stretches, .func (PySem.W.fnOf "check_stretches" "check_stretches" (defArgs s_check_stretches) (defBody s_check_stretches) (defScope s_check_stretches) .none kV_check_stretches dc_check_stretches pm_check_stretches an_check_stretches cd_check_stretches ct_check_stretches), sl_check_stretches⟩)
    (c_check_stretches : PySem.W.codeIn K cd_check_stretches "check_stretches" = true)
    (k_check_stretches : PySem.W.keepIn K (.ref f_check_stretches) = true)
    (a_is_empty : PySem.W.nsIn K mainGlobals "is_empty" = some (some (.ref f_is_empty)))
    (l_is_empty : K.lookup f_is_empty = some ⟨oc_is_empty, od_is_empty, .func (PySem.W.fnOf "is_empty" "is_empty" (defArgs s_is_empty) (defBody s_is_empty) (defScope s_is_empty) (.ref T_is_empty) kV_is_empty dc_is_empty pm_is_empty an_is_empty cd_is_empty ct_is_empty), sl_is_empty⟩)
    (c_is_empty : PySem.W.codeIn K cd_is_empty "is_empty" = true)
    (k_is_empty : PySem.W.keepIn K (.ref f_is_empty) = true)
    (T1_is_empty : K.lookup T_is_empty = some o_is_empty)
    (T2_is_empty : o_is_empty.data = .seq its_is_empty.toArray n_is_empty)
    (T3_is_empty : Vals [.str "half"] its_is_empty)
    (a_join_sorted : PySem.W.nsIn K mainGlobals "join_sorted" = some (some (.ref f_join_sorted)))
    (l_join_sorted : K.lookup f_join_sorted = some ⟨oc_join_sorted, od_join_sorted, .func (PySem.W.fnOf "join_sorted" "join_sorted" (defArgs s_join_sorted) (defBody s_join_sorted) (defScope s_join_sorted) .none kV_join_sorted dc_join_sorted pm_join_sorted an_join_sorted cd_join_sorted ct_join_sorted), sl_join_sorted⟩)
    (c_join_sorted : PySem.W.codeIn K cd_join_sorted "join_sorted" = true)
    (k_join_sorted : PySem.W.keepIn K (.ref f_join_sorted) = true)
    (a_union : PySem.W.nsIn K mainGlobals "union" = some (some (.ref f_union)))
    (l_union : K.lookup f_union = some ⟨oc_union, od_union, .func (PySem.W.fnOf "union" "union" (defArgs s_union) (defBody s_union) (defScope s_union) (.ref T_union) kV_union dc_union pm_union an_union cd_union ct_union), sl_union⟩)
    (c_union : PySem.W.codeIn K cd_union "union" = true)
    (k_union : PySem.W.keepIn K (.ref f_union) = true)
    (T1_union : K.lookup T_union = some o_union)
    (T2_union : o_union.data = .seq its_union.toArray n_union)
    (T3_union : Vals [.str "half"] its_union)
    (a_in_one_form : PySem.W.nsIn K mainGlobals "in_one_form" = some (some (.ref f_in_one_form)))
    (l_in_one_form : K.lookup f_in_one_form = some ⟨oc_in_one_form, od_in_one_form, .func (PySem.W.fnOf "in_one_form" "in_one_form" (defArgs s_in_one_form) (defBody s_in_one_form) (defScope s_in_one_form) (.ref T_in_one_form) kV_in_one_form dc_in_one_form pm_in_one_form an_in_one_form cd_in_one_form ct_in_one_form), sl_in_one_form⟩)
    (c_in_one_form : PySem.W.codeIn K cd_in_one_form "in_one_form" = true)
    (k_in_one_form : PySem.W.keepIn K (.ref f_in_one_form) = true)
    (T1_in_one_form : K.lookup T_in_one_form = some o_in_one_form)
    (T2_in_one_form : o_in_one_form.data = .seq its_in_one_form.toArray n_in_one_form)
    (T3_in_one_form : Vals [.str "half"] its_in_one_form)
    (a_l_bag : PySem.W.nsIn K mainGlobals "_law_bag" = some (some (.ref f_l_bag)))
    (l_l_bag : K.lookup f_l_bag = some ⟨oc_l_bag, od_l_bag, .func (PySem.W.fnOf "_law_bag" "_law_bag" (defArgs s_l_bag) (defBody s_l_bag) (defScope s_l_bag) .none kV_l_bag dc_l_bag pm_l_bag an_l_bag cd_l_bag ct_l_bag), sl_l_bag⟩)
    (c_l_bag : PySem.W.codeIn K cd_l_bag "_law_bag" = true)
    (k_l_bag : PySem.W.keepIn K (.ref f_l_bag) = true)
    (a_l_take : PySem.W.nsIn K mainGlobals "_law_take" = some (some (.ref f_l_take)))
    (l_l_take : K.lookup f_l_take = some ⟨oc_l_take, od_l_take, .func (PySem.W.fnOf "_law_take" "_law_take" (defArgs s_l_take) (defBody s_l_take) (defScope s_l_take) .none kV_l_take dc_l_take pm_l_take an_l_take cd_l_take ct_l_take), sl_l_take⟩)
    (c_l_take : PySem.W.codeIn K cd_l_take "_law_take" = true)
    (k_l_take : PySem.W.keepIn K (.ref f_l_take) = true)
    (a_l_edge : PySem.W.nsIn K mainGlobals "_law_edge" = some (some (.ref f_l_edge)))
    (l_l_edge : K.lookup f_l_edge = some ⟨oc_l_edge, od_l_edge, .func (PySem.W.fnOf "_law_edge" "_law_edge" (defArgs s_l_edge) (defBody s_l_edge) (defScope s_l_edge) .none kV_l_edge dc_l_edge pm_l_edge an_l_edge cd_l_edge ct_l_edge), sl_l_edge⟩)
    (c_l_edge : PySem.W.codeIn K cd_l_edge "_law_edge" = true)
    (k_l_edge : PySem.W.keepIn K (.ref f_l_edge) = true)
    (a_l_stretch : PySem.W.nsIn K mainGlobals "_law_stretch" = some (some (.ref f_l_stretch)))
    (l_l_stretch : K.lookup f_l_stretch = some ⟨oc_l_stretch, od_l_stretch, .func (PySem.W.fnOf "_law_stretch" "_law_stretch" (defArgs s_l_stretch) (defBody s_l_stretch) (defScope s_l_stretch) .none kV_l_stretch dc_l_stretch pm_l_stretch an_l_stretch cd_l_stretch ct_l_stretch), sl_l_stretch⟩)
    (c_l_stretch : PySem.W.codeIn K cd_l_stretch "_law_stretch" = true)
    (k_l_stretch : PySem.W.keepIn K (.ref f_l_stretch) = true)
    (a_l_inner : PySem.W.nsIn K mainGlobals "_law_inner" = some (some (.ref f_l_inner)))
    (l_l_inner : K.lookup f_l_inner = some ⟨oc_l_inner, od_l_inner, .func (PySem.W.fnOf "_law_inner" "_law_inner" (defArgs s_l_inner) (defBody s_l_inner) (defScope s_l_inner) .none kV_l_inner dc_l_inner pm_l_inner an_l_inner cd_l_inner ct_l_inner), sl_l_inner⟩)
    (c_l_inner : PySem.W.codeIn K cd_l_inner "_law_inner" = true)
    (k_l_inner : PySem.W.keepIn K (.ref f_l_inner) = true)
    (a_l_other : PySem.W.nsIn K mainGlobals "_law_other" = some (some (.ref f_l_other)))
    (l_l_other : K.lookup f_l_other = some ⟨oc_l_other, od_l_other, .func (PySem.W.fnOf "_law_other" "_law_other" (defArgs s_l_other) (defBody s_l_other) (defScope s_l_other) .none kV_l_other dc_l_other pm_l_other an_l_other cd_l_other ct_l_other), sl_l_other⟩)
    (c_l_other : PySem.W.codeIn K cd_l_other "_law_other" = true)
    (k_l_other : PySem.W.keepIn K (.ref f_l_other) = true)
    (a_l_has_all : PySem.W.nsIn K mainGlobals "_law_has_all" = some (some (.ref f_l_has_all)))
    (l_l_has_all : K.lookup f_l_has_all = some ⟨oc_l_has_all, od_l_has_all, .func (PySem.W.fnOf "_law_has_all" "_law_has_all" (defArgs s_l_has_all) (defBody s_l_has_all) (defScope s_l_has_all) .none kV_l_has_all dc_l_has_all pm_l_has_all an_l_has_all cd_l_has_all ct_l_has_all), sl_l_has_all⟩)
    (c_l_has_all : PySem.W.codeIn K cd_l_has_all "_law_has_all" = true)
    (k_l_has_all : PySem.W.keepIn K (.ref f_l_has_all) = true)
    (a_l_right : PySem.W.nsIn K mainGlobals "_law_right" = some (some (.ref f_l_right)))
    (l_l_right : K.lookup f_l_right = some ⟨oc_l_right, od_l_right, .func (PySem.W.fnOf "_law_right" "_law_right" (defArgs s_l_right) (defBody s_l_right) (defScope s_l_right) .none kV_l_right dc_l_right pm_l_right an_l_right cd_l_right ct_l_right), sl_l_right⟩)
    (c_l_right : PySem.W.codeIn K cd_l_right "_law_right" = true)
    (k_l_right : PySem.W.keepIn K (.ref f_l_right) = true)
    (a_law : PySem.W.nsIn K mainGlobals "law" = some (some (.ref f_law)))
    (l_law : K.lookup f_law = some ⟨oc_law, od_law, .func (PySem.W.fnOf "law" "law" (defArgs s_law) (defBody s_law) (defScope s_law) .none kV_law dc_law pm_law an_law cd_law ct_law), sl_law⟩)
    (c_law : PySem.W.codeIn K cd_law "law" = true)
    (k_law : PySem.W.keepIn K (.ref f_law) = true)
    : ∃ fd : FuncData, (∀ (s : Shared) (v : Value), BindsTo s fd ⟨[v], []⟩ [("_law_script", v)]) ∧ ∀ bh : Heap, K.In bh → bh.Ns mainGlobals mg → FnG l.prog w K mg bh 9 fa fd ["_law_script"] (sp_law K) := by
  have e := hfa.symm.trans (PySem.W.mg_of X G a_law)
  cases e
  have B : Blt mg := ⟨PySem.W.mg_none_of X G z_abs, PySem.W.mg_none_of X G z_bool, PySem.W.mg_none_of X G z_enumerate, PySem.W.mg_none_of X G z_int, PySem.W.mg_none_of X G z_isinstance, PySem.W.mg_none_of X G z_len, PySem.W.mg_none_of X G z_list, PySem.W.mg_none_of X G z_max, PySem.W.mg_none_of X G z_min, PySem.W.mg_none_of X G z_range, PySem.W.mg_none_of X G z_sorted, PySem.W.mg_none_of X G z_tuple⟩
  have T : Txt K mg := ⟨⟨t_FIRST, PySem.W.mg_of X G c_FIRST⟩, ⟨t_LAST, PySem.W.mg_of X G c_LAST⟩, ⟨t_FAR, PySem.W.mg_of X G c_FAR⟩, ⟨⟨CE, .type "type", _, _, PySem.W.mg_of X G e_g, ⟨e_rd, e_ga⟩, ⟨e_1, ⟨_, rfl⟩⟩, ⟨e_2, ⟨_, rfl⟩⟩⟩⟩⟩
  have F_is_number := fun_mk (st := s_is_number) l_is_number c_is_number k_is_number
  have b_is_number := F_is_number.binds (ps := ["value"]) fun _ _ _ _ _ _ us hl => match us, hl with | [_], _ => rfl
  have F_is_edge := fun_mk (st := s_is_edge) l_is_edge c_is_edge k_is_edge
  have b_is_edge := F_is_edge.binds (ps := ["value"]) fun _ _ _ _ _ _ us hl => match us, hl with | [_], _ => rfl
  have F_is_pair := fun_mk (st := s_is_pair) l_is_pair c_is_pair k_is_pair
  have b_is_pair := F_is_pair.binds (ps := ["value"]) fun _ _ _ _ _ _ us hl => match us, hl with | [_], _ => rfl
  have F_is_stretch := fun_mk (st := s_is_stretch) l_is_stretch c_is_stretch k_is_stretch
  have b_is_stretch := F_is_stretch.binds (ps := ["value"]) fun _ _ _ _ _ _ us hl => match us, hl with | [_], _ => rfl
  have F_check_ends := fun_mk (st := s_check_ends) l_check_ends c_check_ends k_check_ends
  have b_check_ends := F_check_ends.binds (ps := ["ends"]) fun _ _ _ _ _ _ us hl => match us, hl with | [_], _ => rfl
  have F_check_stretches := fun_mk (st := s_check_stretches) l_check_stretches c_check_stretches k_check_stretches
  have b_check_stretches := F_check_stretches.binds (ps := ["spans"]) fun _ _ _ _ _ _ us hl => match us, hl with | [_], _ => rfl
  have F_is_empty : FunD K "is_empty" "is_empty" (defArgs s_is_empty) (defBody s_is_empty) (defScope s_is_empty) [.str "half"] [] f_is_empty _ := ⟨⟨oc_is_empty, od_is_empty, .ref T_is_empty, kV_is_empty, dc_is_empty, pm_is_empty, an_is_empty, cd_is_empty, ct_is_empty, sl_is_empty, rfl, l_is_empty, c_is_empty, .inr ⟨(fun z => nomatch z), T_is_empty, o_is_empty, its_is_empty, n_is_empty, rfl, T1_is_empty, T2_is_empty, T3_is_empty⟩, .inl rfl⟩, k_is_empty⟩
  have b_is_empty := bindsFull (ps := ["pair", "ends"]) F_is_empty (fun z => nomatch z) fun _ _ _ _ _ _ _ us its h1 h2 => match us, its, h1, h2 with | [_, _], [_], _, _ => ⟨_, rfl, rfl⟩
  have b1_is_empty := FunD.binds1 (ps := ["pair", "ends"]) F_is_empty 1 0 (fun z => nomatch z) rfl fun _ _ _ _ _ _ _ us its h1 h2 => match us, its, h1, h2 with | [_], [_], _, _ => ⟨_, rfl, rfl⟩
  have F_join_sorted := fun_mk (st := s_join_sorted) l_join_sorted c_join_sorted k_join_sorted
  have b_join_sorted := F_join_sorted.binds (ps := ["spans"]) fun _ _ _ _ _ _ us hl => match us, hl with | [_], _ => rfl
  have F_union : FunD K "union" "union" (defArgs s_union) (defBody s_union) (defScope s_union) [.str "half"] [] f_union _ := ⟨⟨oc_union, od_union, .ref T_union, kV_union, dc_union, pm_union, an_union, cd_union, ct_union, sl_union, rfl, l_union, c_union, .inr ⟨(fun z => nomatch z), T_union, o_union, its_union, n_union, rfl, T1_union, T2_union, T3_union⟩, .inl rfl⟩, k_union⟩
  have b_union := bindsFull (ps := ["spans", "ends"]) F_union (fun z => nomatch z) fun _ _ _ _ _ _ _ us its h1 h2 => match us, its, h1, h2 with | [_, _], [_], _, _ => ⟨_, rfl, rfl⟩
  have b1_union := FunD.binds1 (ps := ["spans", "ends"]) F_union 1 0 (fun z => nomatch z) rfl fun _ _ _ _ _ _ _ us its h1 h2 => match us, its, h1, h2 with | [_], [_], _, _ => ⟨_, rfl, rfl⟩
  have F_in_one_form : FunD K "in_one_form" "in_one_form" (defArgs s_in_one_form) (defBody s_in_one_form) (defScope s_in_one_form) [.str "half"] [] f_in_one_form _ := ⟨⟨oc_in_one_form, od_in_one_form, .ref T_in_one_form, kV_in_one_form, dc_in_one_form, pm_in_one_form, an_in_one_form, cd_in_one_form, ct_in_one_form, sl_in_one_form, rfl, l_in_one_form, c_in_one_form, .inr ⟨(fun z => nomatch z), T_in_one_form, o_in_one_form, its_in_one_form, n_in_one_form, rfl, T1_in_one_form, T2_in_one_form, T3_in_one_form⟩, .inl rfl⟩, k_in_one_form⟩
  have b_in_one_form := bindsFull (ps := ["spans", "ends"]) F_in_one_form (fun z => nomatch z) fun _ _ _ _ _ _ _ us its h1 h2 => match us, its, h1, h2 with | [_, _], [_], _, _ => ⟨_, rfl, rfl⟩
  have b1_in_one_form := FunD.binds1 (ps := ["spans", "ends"]) F_in_one_form 1 0 (fun z => nomatch z) rfl fun _ _ _ _ _ _ _ us its h1 h2 => match us, its, h1, h2 with | [_], [_], _, _ => ⟨_, rfl, rfl⟩
  have F_l_bag := fun_mk (st := s_l_bag) l_l_bag c_l_bag k_l_bag
  have b_l_bag := F_l_bag.binds (ps := ["_law_script", "_law_at"]) fun _ _ _ _ _ _ us hl => match us, hl with | [_, _], _ => rfl
  have F_l_take := fun_mk (st := s_l_take) l_l_take c_l_take k_l_take
  have b_l_take := F_l_take.binds (ps := ["_law_bag_here", "_law_many"]) fun _ _ _ _ _ _ us hl => match us, hl with | [_, _], _ => rfl
  have F_l_edge := fun_mk (st := s_l_edge) l_l_edge c_l_edge k_l_edge
  have b_l_edge := F_l_edge.binds (ps := ["_law_bag_here"]) fun _ _ _ _ _ _ us hl => match us, hl with | [_], _ => rfl
  have F_l_stretch := fun_mk (st := s_l_stretch) l_l_stretch c_l_stretch k_l_stretch
  have b_l_stretch := F_l_stretch.binds (ps := ["_law_bag_here"]) fun _ _ _ _ _ _ us hl => match us, hl with | [_], _ => rfl
  have F_l_inner := fun_mk (st := s_l_inner) l_l_inner c_l_inner k_l_inner
  have b_l_inner := F_l_inner.binds (ps := ["_law_bag_here", "_law_span"]) fun _ _ _ _ _ _ us hl => match us, hl with | [_, _], _ => rfl
  have F_l_other := fun_mk (st := s_l_other) l_l_other c_l_other k_l_other
  have b_l_other := F_l_other.binds (ps := ["_law_bag_here", "_law_spans", "_law_ends"]) fun _ _ _ _ _ _ us hl => match us, hl with | [_, _, _], _ => rfl
  have F_l_has_all := fun_mk (st := s_l_has_all) l_l_has_all c_l_has_all k_l_has_all
  have b_l_has_all := F_l_has_all.binds (ps := ["_law_pairs", "_law_span", "_law_ends"]) fun _ _ _ _ _ _ us hl => match us, hl with | [_, _, _], _ => rfl
  have F_l_right := fun_mk (st := s_l_right) l_l_right c_l_right k_l_right
  have b_l_right := F_l_right.binds (ps := ["_law_bag_here", "_law_spans", "_law_ends"]) fun _ _ _ _ _ _ us hl => match us, hl with | [_, _, _], _ => rfl
  have F_law := fun_mk (st := s_law) l_law c_law k_law
  refine ⟨PySem.W.fnOf "law" "law" (defArgs s_law) (defBody s_law) (defScope s_law) .none kV_law dc_law pm_law an_law cd_law ct_law, fun s v => .of_eq rfl, fun bh _ _ => ?_⟩
  have R_is_number : Rdy l.prog w K mg bh "is_number" 1 ["value"] (sp_is_number K) f_is_number _ := ⟨ok_is_number B T  F_is_number, PySem.W.mg_of X G a_is_number, k_is_number, b_is_number⟩
  have R_is_edge : Rdy l.prog w K mg bh "is_edge" 2 ["value"] (sp_is_edge K) f_is_edge _ := ⟨ok_is_edge B T R_is_number F_is_edge, PySem.W.mg_of X G a_is_edge, k_is_edge, b_is_edge⟩
  have R_is_pair : Rdy l.prog w K mg bh "is_pair" 3 ["value"] (sp_is_pair K) f_is_pair _ := ⟨ok_is_pair B T R_is_edge F_is_pair, PySem.W.mg_of X G a_is_pair, k_is_pair, b_is_pair⟩
  have R_is_stretch : Rdy l.prog w K mg bh "is_stretch" 4 ["value"] (sp_is_stretch K) f_is_stretch _ := ⟨ok_is_stretch B T R_is_pair F_is_stretch, PySem.W.mg_of X G a_is_stretch, k_is_stretch, b_is_stretch⟩
  have R_check_ends : Rdy l.prog w K mg bh "check_ends" 1 ["ends"] (sp_check_ends K) f_check_ends _ := ⟨ok_check_ends B T  F_check_ends, PySem.W.mg_of X G a_check_ends, k_check_ends, b_check_ends⟩
  have R_check_stretches : Rdy l.prog w K mg bh "check_stretches" 5 ["spans"] (sp_check_stretches K) f_check_stretches _ := ⟨ok_check_stretches B T R_is_stretch F_check_stretches, PySem.W.mg_of X G a_check_stretches, k_check_stretches, b_check_stretches⟩
  have R_is_empty : RdyD l.prog w K mg bh "is_empty" 2 ["pair", "ends"] [.str "half"] (sp_is_empty K) f_is_empty _ := ⟨ok_is_empty B T R_check_ends F_is_empty, PySem.W.mg_of X G a_is_empty, k_is_empty, b_is_empty, b1_is_empty⟩
  have R_join_sorted : Rdy l.prog w K mg bh "join_sorted" 1 ["spans"] (sp_join_sorted K) f_join_sorted _ := ⟨ok_join_sorted B T  F_join_sorted, PySem.W.mg_of X G a_join_sorted, k_join_sorted, b_join_sorted⟩
  have R_union : RdyD l.prog w K mg bh "union" 6 ["spans", "ends"] [.str "half"] (sp_union K) f_union _ := ⟨ok_union B T R_check_stretches R_check_ends R_join_sorted R_is_empty F_union, PySem.W.mg_of X G a_union, k_union, b_union, b1_union⟩
  have R_in_one_form : RdyD l.prog w K mg bh "in_one_form" 7 ["spans", "ends"] [.str "half"] (sp_in_one_form K) f_in_one_form _ := ⟨ok_in_one_form B T R_union F_in_one_form, PySem.W.mg_of X G a_in_one_form, k_in_one_form, b_in_one_form, b1_in_one_form⟩
  have R_l_bag : Rdy l.prog w K mg bh "_law_bag" 1 ["_law_script", "_law_at"] (sp_l_bag K) f_l_bag _ := ⟨ok_l_bag B T  F_l_bag, PySem.W.mg_of X G a_l_bag, k_l_bag, b_l_bag⟩
  have R_l_take : Rdy l.prog w K mg bh "_law_take" 1 ["_law_bag_here", "_law_many"] (sp_l_take K) f_l_take _ := ⟨ok_l_take B T  F_l_take, PySem.W.mg_of X G a_l_take, k_l_take, b_l_take⟩
  have R_l_edge : Rdy l.prog w K mg bh "_law_edge" 2 ["_law_bag_here"] (sp_l_edge K) f_l_edge _ := ⟨ok_l_edge B T R_l_take F_l_edge, PySem.W.mg_of X G a_l_edge, k_l_edge, b_l_edge⟩
  have R_l_stretch : Rdy l.prog w K mg bh "_law_stretch" 3 ["_law_bag_here"] (sp_l_stretch K) f_l_stretch _ := ⟨ok_l_stretch B T R_l_take R_l_edge F_l_stretch, PySem.W.mg_of X G a_l_stretch, k_l_stretch, b_l_stretch⟩
  have R_l_inner : Rdy l.prog w K mg bh "_law_inner" 2 ["_law_bag_here", "_law_span"] (sp_l_inner K) f_l_inner _ := ⟨ok_l_inner B T R_l_take F_l_inner, PySem.W.mg_of X G a_l_inner, k_l_inner, b_l_inner⟩
  have R_l_other : Rdy l.prog w K mg bh "_law_other" 3 ["_law_bag_here", "_law_spans", "_law_ends"] (sp_l_other K) f_l_other _ := ⟨ok_l_other B T R_l_take R_l_inner R_l_edge F_l_other, PySem.W.mg_of X G a_l_other, k_l_other, b_l_other⟩
  have R_l_has_all : Rdy l.prog w K mg bh "_law_has_all" 1 ["_law_pairs", "_law_span", "_law_ends"] (sp_l_has_all K) f_l_has_all _ := ⟨ok_l_has_all B T  F_l_has_all, PySem.W.mg_of X G a_l_has_all, k_l_has_all, b_l_has_all⟩
  have R_l_right : Rdy l.prog w K mg bh "_law_right" 8 ["_law_bag_here", "_law_spans", "_law_ends"] (sp_l_right K) f_l_right _ := ⟨ok_l_right B T R_l_other R_union R_l_stretch R_l_has_all R_in_one_form R_is_empty F_l_right, PySem.W.mg_of X G a_l_right, k_l_right, b_l_right⟩
  exact ok_law B T R_l_bag R_l_stretch R_l_right R_l_take F_law
end
end Spk
open PySem PySem.W PyProof.Rows
set_option maxHeartbeats 0 in
theorem PySem.Challenge.cw_spanloops_k07_whole_unions_agree_holds : PySem.Challenge.rw_spanloops_k07_whole_unions_agree.Holds := by
  w_on; o_law; k_head; (case hw => w_witness2)
  k_fill
  refine Spk.walkG (l := PySem.Challenge.rw_spanloops_k07_whole_unions_agree) (n := 63) (k := 9) (x := "_law_script") (sp := fun w => Spk.sp_law _) rfl (by decide) rfl ⟨rfl, by decide, by decide⟩ (fun w h Y => PySem.W.kIn_of Y) ?F (fun _ _ a ns hl _ hS => ⟨a, ns, rfl, hS, hl, fun _ => rfl⟩)
  case F =>
    intro w mg fa h KX G hmg
    refine' Spk.all_mk KX G hmg ?z_abs ?z_bool ?z_enumerate ?z_int ?z_isinstance ?z_len ?z_list ?z_max ?z_min ?z_range ?z_sorted ?z_tuple ?c_FIRST ?c_LAST ?c_FAR ?e_g ?e_rd ?e_ga ?e_1 ?e_2 ?a_is_number ?l_is_number ?c_is_number ?k_is_number ?a_is_edge ?l_is_edge ?c_is_edge ?k_is_edge ?a_is_pair ?l_is_pair ?c_is_pair ?k_is_pair ?a_is_stretch ?l_is_stretch ?c_is_stretch ?k_is_stretch ?a_check_ends ?l_check_ends ?c_check_ends ?k_check_ends ?a_check_stretches ?l_check_stretches ?c_check_stretches ?k_check_stretches ?a_is_empty ?l_is_empty ?c_is_empty ?k_is_empty ?T1_is_empty ?T2_is_empty ?T3_is_empty ?a_join_sorted ?l_join_sorted ?c_join_sorted ?k_join_sorted ?a_union ?l_union ?c_union ?k_union ?T1_union ?T2_union ?T3_union ?a_in_one_form ?l_in_one_form ?c_in_one_form ?k_in_one_form ?T1_in_one_form ?T2_in_one_form ?T3_in_one_form ?a_l_bag ?l_l_bag ?c_l_bag ?k_l_bag ?a_l_take ?l_l_take ?c_l_take ?k_l_take ?a_l_edge ?l_l_edge ?c_l_edge ?k_l_edge ?a_l_stretch ?l_l_stretch ?c_l_stretch ?k_l_stretch ?a_l_inner ?l_l_inner ?c_l_inner ?k_l_inner ?a_l_other ?l_l_other ?c_l_other ?k_l_other ?a_l_has_all ?l_l_has_all ?c_l_has_all ?k_l_has_all ?a_l_right ?l_l_right ?c_l_right ?k_l_right ?a_law ?l_law ?c_law ?k_law
    (case z_abs => k_is)
    (case z_bool => k_is)
    (case z_enumerate => k_is)
    (case z_int => k_is)
    (case z_isinstance => k_is)
    (case z_len => k_is)
    (case z_list => k_is)
    (case z_max => k_is)
    (case z_min => k_is)
    (case z_range => k_is)
    (case z_sorted => k_is)
    (case z_tuple => k_is)
    (case c_FIRST => k_is)
    (case c_LAST => k_is)
    (case c_FAR => k_is)
    (case e_g => k_is)
    (case e_rd => k_is)
    (case e_ga => k_is)
    (case e_1 => k_is)
    (case e_2 => k_is)
    (case a_is_number => k_is)
    (case l_is_number => k_is)
    (case c_is_number => k_is)
    (case k_is_number => k_is)
    (case a_is_edge => k_is)
    (case l_is_edge => k_is)
    (case c_is_edge => k_is)
    (case k_is_edge => k_is)
    (case a_is_pair => k_is)
    (case l_is_pair => k_is)
    (case c_is_pair => k_is)
    (case k_is_pair => k_is)
    (case a_is_stretch => k_is)
    (case l_is_stretch => k_is)
    (case c_is_stretch => k_is)
    (case k_is_stretch => k_is)
    (case a_check_ends => k_is)
    (case l_check_ends => k_is)
    (case c_check_ends => k_is)
    (case k_check_ends => k_is)
    (case a_check_stretches => k_is)
    (case l_check_stretches => k_is)
    (case c_check_stretches => k_is)
    (case k_check_stretches => k_is)
    (case a_is_empty => k_is)
    (case l_is_empty => k_is)
    (case c_is_empty => k_is)
    (case k_is_empty => k_is)
    (case T1_is_empty => k_is)
    (case T2_is_empty => first | rfl | k_is)
    (case T3_is_empty => exact .cons ⟨_, rfl⟩ .nil)
    (case a_join_sorted => k_is)
    (case l_join_sorted => k_is)
    (case c_join_sorted => k_is)
    (case k_join_sorted => k_is)
    (case a_union => k_is)
    (case l_union => k_is)
    (case c_union => k_is)
    (case k_union => k_is)
    (case T1_union => k_is)
    (case T2_union => first | rfl | k_is)
    (case T3_union => exact .cons ⟨_, rfl⟩ .nil)
    (case a_in_one_form => k_is)
    (case l_in_one_form => k_is)
    (case c_in_one_form => k_is)
    (case k_in_one_form => k_is)
    (case T1_in_one_form => k_is)
    (case T2_in_one_form => first | rfl | k_is)
    (case T3_in_one_form => exact .cons ⟨_, rfl⟩ .nil)
    (case a_l_bag => k_is)
    (case l_l_bag => k_is)
    (case c_l_bag => k_is)
    (case k_l_bag => k_is)
    (case a_l_take => k_is)
    (case l_l_take => k_is)
    (case c_l_take => k_is)
    (case k_l_take => k_is)
    (case a_l_edge => k_is)
    (case l_l_edge => k_is)
    (case c_l_edge => k_is)
    (case k_l_edge => k_is)
    (case a_l_stretch => k_is)
    (case l_l_stretch => k_is)
    (case c_l_stretch => k_is)
    (case k_l_stretch => k_is)
    (case a_l_inner => k_is)
    (case l_l_inner => k_is)
    (case c_l_inner => k_is)
    (case k_l_inner => k_is)
    (case a_l_other => k_is)
    (case l_l_other => k_is)
    (case c_l_other => k_is)
    (case k_l_other => k_is)
    (case a_l_has_all => k_is)
    (case l_l_has_all => k_is)
    (case c_l_has_all => k_is)
    (case k_l_has_all => k_is)
    (case a_l_right => k_is)
    (case l_l_right => k_is)
    (case c_l_right => k_is)
    (case k_l_right => k_is)
    (case a_law => k_is)
    (case l_law => k_is)
    (case c_law => k_is)
    (case k_law => k_is)
