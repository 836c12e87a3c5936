import PyProof.Rows.All
import Wide.All
import OpenK.AllK
import Wide.FinOn
import PySem.Challenge.RW_spanloops_k31_times_wanted
import HandS.ForMost
import HandS.Wide
import HandS.Walk
import HandS.SortRule
import HandS.Defaults
import HandS.IsInst
import HandS.ClsMeth
import HandS.TupLe
import KE.GoesMore
import HandS.MakeKwOnly
import HandS.Property
import KE.KRevSl
import HandS.SortInts
import HandS.More
set_option Elab.async false
set_option linter.all false
set_option maxRecDepth 100000
set_option maxHeartbeats 4000000
namespace Spk
/-! ### pairs of edges, the union as a function on lists of pairs -/
abbrev Pr := Int × Int
def ple (p q : Pr) : Prop := p.1 < q.1 ∨ (p.1 = q.1 ∧ p.2 ≤ q.2)
instance (p q : Pr) : Decidable (ple p q) := inferInstanceAs (Decidable (_ ∨ _))
theorem ple_trans {p q r : Pr} (a : ple p q) (b : ple q r) : ple p r := by unfold ple at *; omega
theorem ple_total (p q : Pr) : ple p q ∨ ple q p := by unfold ple; omega
theorem ple_anti {p q : Pr} (a : ple p q) (b : ple q p) : p = q := by
  obtain ⟨x, y⟩ := p; obtain ⟨z, w⟩ := q
  simp only [ple] at a b
  have : x = z := by omega
  have : y = w := by omega
  subst x; subst y; rfl
theorem ple_refl (p : Pr) : ple p p := by unfold ple; omega
def ins (p : Pr) : List Pr → List Pr
  | [] => [p]
  | q :: r => if ple p q then p :: q :: r else q :: ins p r
def srt : List Pr → List Pr
  | [] => []
  | p :: r => ins p (srt r)
theorem ins_perm (p : Pr) : ∀ l, (ins p l).Perm (p :: l)
  | [] => .refl _
  | q :: r => by
    unfold ins
    split
    · exact .refl _
    · exact ((ins_perm p r).cons q).trans (List.Perm.swap p q r)
theorem srt_perm : ∀ l, (srt l).Perm l
  | [] => .refl _
  | p :: r => (ins_perm p _).trans ((srt_perm r).cons p)
theorem ins_sorted (p : Pr) : ∀ l, l.Pairwise ple → (ins p l).Pairwise ple
  | [], _ => by simp [ins]
  | q :: r, h => by
    unfold ins
    have hq := List.pairwise_cons.mp h
    split
    · rename_i c
      refine List.pairwise_cons.mpr ⟨fun y hy => ?_, h⟩
      rcases List.mem_cons.mp hy with e | hy
      · exact e ▸ c
      · exact ple_trans c (hq.1 y hy)
    · rename_i c
      refine List.pairwise_cons.mpr ⟨fun y hy => ?_, ins_sorted p r hq.2⟩
      have := (ins_perm p r).mem_iff.mp hy
      rcases List.mem_cons.mp this with e | hy
      · rw [e]; exact (ple_total p q).resolve_left c
      · exact hq.1 y hy
theorem srt_sorted : ∀ l, (srt l).Pairwise ple
  | [] => List.Pairwise.nil
  | p :: r => ins_sorted p _ (srt_sorted r)
theorem sorted_uniq : ∀ {l m : List Pr}, l.Pairwise ple → m.Pairwise ple → l.Perm m → l = m
  | [], m, _, _, h => (List.Perm.nil_eq h)
  | x :: l, [], _, _, h => absurd h.length_eq (by simp)
  | x :: l, y :: m, hl, hm, h => by
    have h1 := List.pairwise_cons.mp hl
    have h2 := List.pairwise_cons.mp hm
    have a : ple x y := by
      rcases List.mem_cons.mp (h.mem_iff.mpr (List.mem_cons_self (a := y) (l := m))) with e | q
      · rw [e]; exact ple_refl x
      · exact h1.1 y q
    have b : ple y x := by
      rcases List.mem_cons.mp (h.mem_iff.mp (List.mem_cons_self (a := x) (l := l))) with e | q
      · rw [e]; exact ple_refl y
      · exact h2.1 x q
    have e := ple_anti a b
    subst e
    rw [sorted_uniq h1.2 h2.2 h.cons_inv]
/-- one turn of join_sorted's loop -/
def stepJ (s : List Pr × Pr) (p : Pr) : List Pr × Pr :=
  if s.2.2 < p.1 then (s.1 ++ [s.2], p) else (s.1, (s.2.1, if s.2.2 < p.2 then p.2 else s.2.2))
def joinF : List Pr → List Pr
  | [] => []
  | p :: r => let s := (p :: r).foldl stepJ ([], p); s.1 ++ [s.2]
/-- the same by recursion -/
def joinG (c : Pr) : List Pr → List Pr
  | [] => [c]
  | p :: r => if c.2 < p.1 then c :: joinG p r else joinG (c.1, if c.2 < p.2 then p.2 else c.2) r
theorem fold_joinG : ∀ (l : List Pr) (acc : List Pr) (c : Pr), (let s := l.foldl stepJ (acc, c); s.1 ++ [s.2]) = acc ++ joinG c l
  | [], acc, c => rfl
  | p :: r, acc, c => by
    simp only [List.foldl_cons, joinG, stepJ]
    split
    · have := fold_joinG r (acc ++ [c]) p
      simp only at this
      rw [this, List.append_assoc]; rfl
    · have := fold_joinG r acc (c.1, if c.2 < p.2 then p.2 else c.2)
      simp only at this
      rw [this]
def joinM : List Pr → List Pr
  | [] => []
  | p :: r => joinG p (p :: r)
theorem joinF_eq : ∀ l, joinF l = joinM l
  | [] => rfl
  | p :: r => by
    have := fold_joinG (p :: r) [] p
    simp only [List.nil_append] at this
    exact this
def gapd : List Pr → Bool
  | [] => true
  | [_] => true
  | p :: q :: r => decide (p.2 < q.1) && gapd (q :: r)
/-- z: whether ends are read as shut -/
def emp (z : Bool) (p : Pr) : Bool := if z then decide (p.2 < p.1) else decide (p.2 ≤ p.1)
def unionM (z : Bool) (l : List Pr) : List Pr := joinM (srt (l.filter fun p => !emp z p))
def oneF (z : Bool) (l : List Pr) : Bool := l.all (fun p => !emp z p) && gapd l
theorem joinG_head : ∀ (l : List Pr) (c : Pr), ∃ h r, joinG c l = (c.1, h) :: r
  | [], c => ⟨c.2, [], rfl⟩
  | p :: r, c => by
    unfold joinG
    split
    · exact ⟨c.2, _, rfl⟩
    · exact joinG_head r (c.1, if c.2 < p.2 then p.2 else c.2)
theorem joinG_gapd : ∀ (l : List Pr) (c : Pr), gapd (joinG c l) = true
  | [], c => rfl
  | p :: r, c => by
    unfold joinG
    split
    · rename_i h
      obtain ⟨hh, rr, e⟩ := joinG_head r p
      have ih := joinG_gapd r p
      rw [e] at ih ⊢
      unfold gapd
      rw [ih, decide_eq_true (by exact h)]; rfl
    · exact joinG_gapd r _
theorem joinG_full {z : Bool} : ∀ (l : List Pr) (c : Pr), emp z c = false → (∀ p ∈ l, emp z p = false) → ∀ p ∈ joinG c l, emp z p = false
  | [], c, hc, _, p, hp => by
    rw [joinG] at hp
    obtain rfl : p = c := by simpa using hp
    exact hc
  | q :: r, c, hc, hl, p, hp => by
    unfold joinG at hp
    split at hp
    · rcases List.mem_cons.mp hp with e | hp
      · exact e ▸ hc
      · exact joinG_full r q (hl q (by simp)) (fun x hx => hl x (by simp [hx])) p hp
    · refine joinG_full r _ ?_ (fun x hx => hl x (by simp [hx])) p hp
      unfold emp at hc ⊢
      cases z <;> simp at hc ⊢ <;> split <;> omega
theorem joinM_one {z : Bool} {l : List Pr} (h : ∀ p ∈ l, emp z p = false) : oneF z (joinM l) = true := by
  cases l with
  | nil => rfl
  | cons p r =>
    unfold oneF joinM
    rw [joinG_gapd, Bool.and_true, List.all_eq_true]
    intro q hq
    rw [joinG_full (z := z) (p :: r) p (h p (by simp)) h q hq]; rfl
theorem joinG_id : ∀ (l : List Pr) (c : Pr), gapd (c :: l) = true → joinG c l = c :: l
  | [], c, _ => rfl
  | p :: r, c, h => by
    unfold gapd at h
    rw [Bool.and_eq_true, decide_eq_true_eq] at h
    unfold joinG
    rw [if_pos h.1, joinG_id r p h.2]
theorem joinM_id {l : List Pr} (h : gapd l = true) (hs : ∀ p ∈ l, p.1 ≤ p.2) : joinM l = l := by
  cases l with
  | nil => rfl
  | cons p r =>
    have : p.1 ≤ p.2 := hs p (by simp)
    show joinG p (p :: r) = p :: r
    unfold joinG
    rw [if_neg (show ¬ p.2 < p.1 by omega), if_neg (show ¬ p.2 < p.2 by omega)]
    exact joinG_id r p h
theorem gapd_tail {p : Pr} {r : List Pr} (h : gapd (p :: r) = true) : gapd r = true := by
  cases r with
  | nil => rfl
  | cons q r => unfold gapd at h; rw [Bool.and_eq_true] at h; exact h.2
theorem gapd_lt : ∀ {p : Pr} {r : List Pr}, gapd (p :: r) = true → (∀ q ∈ r, q.1 ≤ q.2) → ∀ q ∈ r, p.2 < q.1
  | p, [], _, _, q, hq => by simp at hq
  | p, q :: r, h, hs, x, hx => by
    unfold gapd at h
    rw [Bool.and_eq_true, decide_eq_true_eq] at h
    rcases List.mem_cons.mp hx with e | hx
    · exact e ▸ h.1
    · have := gapd_lt h.2 (fun y hy => hs y (by simp [hy])) x hx
      have := hs q (by simp)
      omega
theorem gapd_sorted : ∀ {l : List Pr}, gapd l = true → (∀ q ∈ l, q.1 ≤ q.2) → l.Pairwise ple
  | [], _, _ => .nil
  | p :: r, h, hs => List.pairwise_cons.mpr ⟨fun q hq => by
      have := gapd_lt h (fun y hy => hs y (by simp [hy])) q hq
      have := hs p (by simp)
      exact .inl (by omega), gapd_sorted (gapd_tail h) fun y hy => hs y (by simp [hy])⟩
/-- the union leaves a list as it is just where the list is in one form -/
theorem union_fix {z : Bool} {l : List Pr} (hs : ∀ p ∈ l, p.1 ≤ p.2) : unionM z l = l ↔ oneF z l = true := by
  constructor
  · intro h
    rw [← h]
    unfold unionM
    refine joinM_one fun p hp => ?_
    have := (srt_perm _).mem_iff.mp hp
    have := (List.mem_filter.mp this).2
    simpa using this
  · intro h
    unfold oneF at h
    rw [Bool.and_eq_true, List.all_eq_true] at h
    unfold unionM
    have e1 : l.filter (fun p => !emp z p) = l := List.filter_eq_self.mpr h.1
    have e2 : srt l = l := sorted_uniq (srt_sorted l) (gapd_sorted h.2 hs) (srt_perm l)
    rw [e1, e2, joinM_id h.2 hs]
end Spk

namespace Spk
/-! ### what a list of pairs covers, on a doubled line: (b, e) covers 2b .. 2e - 1, and 2e too if ends are shut -/
def covP (z : Bool) (p : Pr) (m : Int) : Prop := 2 * p.1 ≤ m ∧ m < 2 * p.2 + (if z then 1 else 0)
def cov (z : Bool) (l : List Pr) (m : Int) : Prop := ∃ p ∈ l, covP z p m
theorem cov_nil {z : Bool} {m : Int} : ¬ cov z [] m := fun ⟨_, h, _⟩ => by simp at h
theorem cov_cons {z : Bool} {p : Pr} {l : List Pr} {m : Int} : cov z (p :: l) m ↔ covP z p m ∨ cov z l m := by
  unfold cov; simp
theorem cov_app {z : Bool} {l k : List Pr} {m : Int} : cov z (l ++ k) m ↔ cov z l m ∨ cov z k m := by
  induction l with
  | nil => simp [cov_nil]
  | cons p r ih => rw [List.cons_append, cov_cons, cov_cons, ih, or_assoc]
theorem cov_perm {z : Bool} {l k : List Pr} (h : l.Perm k) {m : Int} : cov z l m ↔ cov z k m :=
  ⟨fun ⟨p, hp, c⟩ => ⟨p, h.mem_iff.mp hp, c⟩, fun ⟨p, hp, c⟩ => ⟨p, h.mem_iff.mpr hp, c⟩⟩
theorem emp_cov {z : Bool} {p : Pr} (h : emp z p = true) (m : Int) : ¬ covP z p m := by
  unfold emp at h; unfold covP
  cases z <;> simp at h ⊢ <;> omega
theorem full_cov {z : Bool} {p : Pr} (h : emp z p = false) : covP z p (2 * p.1) := by
  unfold emp at h; unfold covP
  cases z <;> simp at h ⊢ <;> omega
theorem cov_filter {z : Bool} {l : List Pr} {m : Int} : cov z (l.filter fun p => !emp z p) m ↔ cov z l m := by
  constructor
  · rintro ⟨p, hp, c⟩
    exact ⟨p, (List.mem_filter.mp hp).1, c⟩
  · rintro ⟨p, hp, c⟩
    refine ⟨p, List.mem_filter.mpr ⟨hp, ?_⟩, c⟩
    cases e : emp z p with
    | true => exact absurd c (emp_cov e m)
    | false => rfl
theorem cov_merge {z : Bool} {c p : Pr} (h1 : c.1 ≤ p.1) (h2 : p.1 ≤ c.2) {m : Int} : covP z (c.1, if c.2 < p.2 then p.2 else c.2) m ↔ covP z c m ∨ covP z p m := by
  unfold covP
  cases z <;> simp <;> split <;> omega
theorem cov_joinG {z : Bool} : ∀ (l : List Pr) (c : Pr), (∀ p ∈ l, c.1 ≤ p.1) → l.Pairwise ple → ∀ m, cov z (joinG c l) m ↔ covP z c m ∨ cov z l m
  | [], c, _, _, m => by simp [joinG, cov_cons, cov_nil]
  | p :: r, c, h, hs, m => by
    have hs' := List.pairwise_cons.mp hs
    have hle : ∀ q ∈ r, p.1 ≤ q.1 := fun q hq => by have := hs'.1 q hq; unfold ple at this; omega
    unfold joinG
    split
    · rw [cov_cons, cov_joinG r p hle hs'.2 m, cov_cons]
    · rename_i hn
      rw [cov_joinG r (c.1, if c.2 < p.2 then p.2 else c.2) (fun q hq => h q (by simp [hq])) hs'.2 m, cov_merge (h p (by simp)) (by omega), cov_cons, or_assoc]
theorem cov_joinM {z : Bool} {l : List Pr} (hs : l.Pairwise ple) (m : Int) : cov z (joinM l) m ↔ cov z l m := by
  cases l with
  | nil => rfl
  | cons p r =>
    have hs' := List.pairwise_cons.mp hs
    have hle : ∀ q ∈ p :: r, p.1 ≤ q.1 := fun q hq => by
      rcases List.mem_cons.mp hq with e | hq
      · rw [e]; exact Int.le_refl _
      · have := hs'.1 q hq; unfold ple at this; omega
    show cov z (joinG p (p :: r)) m ↔ _
    rw [cov_joinG (p :: r) p hle hs m, cov_cons]
    exact ⟨fun h => h.elim Or.inl id, Or.inr⟩
/-- the union covers what the list covers -/
theorem cov_union (z : Bool) (l : List Pr) (m : Int) : cov z (unionM z l) m ↔ cov z l m := by
  unfold unionM
  rw [cov_joinM (srt_sorted _), cov_perm (srt_perm _), cov_filter]
theorem union_one (z : Bool) (l : List Pr) : oneF z (unionM z l) = true := by
  unfold unionM
  refine joinM_one fun p hp => ?_
  have := (List.mem_filter.mp ((srt_perm _).mem_iff.mp hp)).2
  simpa using this
theorem oneF_cons {z : Bool} {p : Pr} {l : List Pr} (h : oneF z (p :: l) = true) : emp z p = false ∧ oneF z l = true ∧ gapd (p :: l) = true := by
  unfold oneF at h ⊢
  simp only [List.all_cons, Bool.and_eq_true] at h
  exact ⟨by simpa using h.1.1, by rw [Bool.and_eq_true]; exact ⟨h.1.2, gapd_tail h.2⟩, h.2⟩
theorem emp_le {z : Bool} {p : Pr} (h : emp z p = false) : p.1 ≤ p.2 := by
  unfold emp at h
  cases z <;> simp at h <;> omega
theorem oneF_le {z : Bool} {l : List Pr} (h : oneF z l = true) : ∀ q ∈ l, q.1 ≤ q.2 := fun q hq => by
  unfold oneF at h
  rw [Bool.and_eq_true, List.all_eq_true] at h
  exact emp_le (z := z) (by simpa using h.1 q hq)
/-- what stands behind the first pair of a list in one form lies beyond it -/
theorem cov_beyond {z : Bool} {p : Pr} {l : List Pr} (h : oneF z (p :: l) = true) {m : Int} (c : cov z l m) : 2 * p.2 + 1 < m := by
  obtain ⟨q, hq, c1, c2⟩ := c
  obtain ⟨_, h2, h3⟩ := oneF_cons h
  have := gapd_lt h3 (oneF_le h2) q hq
  omega
/-- a list in one form is told by what it covers -/
theorem one_uniq {z : Bool} : ∀ {l k : List Pr}, oneF z l = true → oneF z k = true → (∀ m, cov z l m ↔ cov z k m) → l = k
  | [], [], _, _, _ => rfl
  | [], q :: k, _, hk, h => absurd ((h (2 * q.1)).mpr (cov_cons.mpr (.inl (full_cov (oneF_cons hk).1)))) cov_nil
  | p :: l, [], hl, _, h => absurd ((h (2 * p.1)).mp (cov_cons.mpr (.inl (full_cov (oneF_cons hl).1)))) cov_nil
  | p :: l, q :: k, hl, hk, h => by
    obtain ⟨p1, p2, p3⟩ := oneF_cons hl
    obtain ⟨q1, q2, q3⟩ := oneF_cons hk
    have lp := emp_le p1
    have lq := emp_le q1
    have at_ : ∀ {p q : Pr} {l k : List Pr}, oneF z (p :: l) = true → oneF z (q :: k) = true → (∀ m, cov z (p :: l) m ↔ cov z (q :: k) m) → q.1 ≤ p.1 := by
      intro p q l k hl hk h
      obtain ⟨p1, _, _⟩ := oneF_cons hl
      obtain ⟨q1, _, _⟩ := oneF_cons hk
      have lq := emp_le q1
      rcases cov_cons.mp ((h (2 * p.1)).mp (cov_cons.mpr (.inl (full_cov p1)))) with c | c
      · have := c.1; omega
      · have := cov_beyond hk c; omega
    have e1 : p.1 = q.1 := by
      have a := at_ hl hk h
      have b := at_ hk hl fun m => (h m).symm
      omega
    have en : ∀ {p q : Pr} {l k : List Pr}, oneF z (p :: l) = true → oneF z (q :: k) = true → (∀ m, cov z (p :: l) m ↔ cov z (q :: k) m) → p.1 = q.1 → q.2 ≤ p.2 := by
      intro p q l k hl hk h e
      obtain ⟨p1, _, _⟩ := oneF_cons hl
      obtain ⟨q1, _, _⟩ := oneF_cons hk
      have lp := emp_le p1
      refine Classical.byContradiction fun hc => ?_
      have hx : cov z (q :: k) (2 * p.2 + 1) := cov_cons.mpr (.inl ⟨by omega, by split <;> omega⟩)
      rcases cov_cons.mp ((h _).mpr hx) with c | c
      · have := c.2
        cases z <;> simp at this
        omega
      · have := cov_beyond hl c; omega
    have e2 : p.2 = q.2 := by
      have a := en hl hk h e1
      have b := en hk hl (fun m => (h m).symm) e1.symm
      omega
    have e : p = q := Prod.ext e1 e2
    subst e
    rw [one_uniq p2 q2 fun m => ?_]
    constructor
    · intro c
      rcases cov_cons.mp ((h m).mp (cov_cons.mpr (.inr c))) with d | d
      · have := cov_beyond hl c
        have := d.2
        cases z <;> simp at this <;> omega
      · exact d
    · intro c
      rcases cov_cons.mp ((h m).mpr (cov_cons.mpr (.inr c))) with d | d
      · have := cov_beyond hk c
        have := d.2
        cases z <;> simp at this <;> omega
      · exact d
/-- two lists have the same union just if they cover the same -/
theorem union_eq_iff {z : Bool} {l k : List Pr} : unionM z l = unionM z k ↔ ∀ m, cov z l m ↔ cov z k m := by
  constructor
  · intro h m
    rw [← cov_union z l m, h, cov_union z k m]
  · intro h
    exact one_uniq (union_one z l) (union_one z k) fun m => by rw [cov_union, cov_union, h m]
/-- the union is a list in one form that covers the same -/
theorem union_is {z : Bool} {l k : List Pr} (hk : oneF z k = true) (h : ∀ m, cov z l m ↔ cov z k m) : unionM z l = k :=
  one_uniq (union_one z l) hk fun m => by rw [cov_union, h m]
end Spk
namespace Spk
theorem covP_cut {z : Bool} {b c e : Int} (h1 : b ≤ c) (h2 : c ≤ e) (m : Int) : covP z (c, e) m ∨ covP z (b, c) m ↔ covP z (b, e) m := by
  unfold covP
  cases z <;> simp <;> omega
theorem covP_sub {z : Bool} {b c d e : Int} (h1 : b ≤ c) (h2 : d ≤ e) {m : Int} (h : covP z (c, d) m) : covP z (b, e) m := by
  unfold covP at *
  cases z <;> simp at h ⊢ <;> omega
theorem cov_mix {z : Bool} (us ws : List Pr) (n : Nat) (m : Int) : cov z (us.take n ++ ws.take 1 ++ us.drop n ++ ws.drop 1) m ↔ cov z us m ∨ cov z ws m := by
  have a : cov z us m ↔ cov z (us.take n) m ∨ cov z (us.drop n) m := by rw [← cov_app, List.take_append_drop]
  have b : cov z ws m ↔ cov z (ws.take 1) m ∨ cov z (ws.drop 1) m := by rw [← cov_app, List.take_append_drop]
  rw [cov_app, cov_app, cov_app, a, b]
  constructor
  · rintro (((h | h) | h) | h)
    · exact .inl (.inl h)
    · exact .inr (.inl h)
    · exact .inl (.inr h)
    · exact .inr (.inr h)
  · rintro ((h | h) | (h | h))
    · exact .inl (.inl (.inl h))
    · exact .inl (.inr h)
    · exact .inl (.inl (.inr h))
    · exact .inr h
theorem cov_take_more {z : Bool} {l : List Pr} {i : Nat} {p : Pr} (h : l[i]? = some p) (m : Int) : cov z (l.take (i + 1)) m ↔ cov z (l.take i) m ∨ covP z p m := by
  rw [List.take_add_one, h, cov_app]
  show _ ∨ cov z [p] m ↔ _
  rw [cov_cons]
  simp [cov_nil]
theorem cov_two {z : Bool} {p q : Pr} {m : Int} : cov z [p, q] m ↔ covP z p m ∨ covP z q m := by
  rw [cov_cons, cov_cons]; simp [cov_nil]
theorem cov_single {z : Bool} {p : Pr} {m : Int} : cov z [p] m ↔ covP z p m := by
  rw [cov_cons]; simp [cov_nil]
end Spk
namespace Spk
theorem gapd_apart : ∀ {l : List Pr}, gapd l = true → (∀ q ∈ l, q.1 ≤ q.2) → ∀ p ∈ l, ∀ q ∈ l, p = q ∨ p.2 < q.1 ∨ q.2 < p.1
  | [], _, _, p, hp, _, _ => by simp at hp
  | x :: r, h, hs, p, hp, q, hq => by
    have ht := gapd_lt h (fun y hy => hs y (by simp [hy]))
    rcases List.mem_cons.mp hp with e1 | hp
    · rcases List.mem_cons.mp hq with e2 | hq
      · exact .inl (e1.trans e2.symm)
      · exact .inr (.inl (e1 ▸ ht q hq))
    · rcases List.mem_cons.mp hq with e2 | hq
      · exact .inr (.inr (e2 ▸ ht p hp))
      · exact gapd_apart (gapd_tail h) (fun y hy => hs y (by simp [hy])) p hp q hq
def hasAll (z : Bool) (l : List Pr) (s : Pr) : Bool := (!z && decide (s.1 = s.2)) || l.any fun p => decide (p.1 ≤ s.1) && decide (s.2 ≤ p.2)
theorem hasAll_iff {z : Bool} {l : List Pr} {s : Pr} (h : oneF z l = true) (hs : s.1 ≤ s.2) : hasAll z l s = true ↔ ∀ m, covP z s m → cov z l m := by
  constructor
  · intro h1 m hm
    unfold hasAll at h1
    simp only [Bool.or_eq_true, Bool.and_eq_true, decide_eq_true_eq, List.any_eq_true, Bool.not_eq_true'] at h1
    rcases h1 with ⟨e1, e2⟩ | ⟨p, hp, e1, e2⟩
    · subst e1
      unfold covP at hm
      simp at hm
      omega
    · exact ⟨p, hp, covP_sub e1 e2 hm⟩
  · intro h1
    unfold hasAll
    simp only [Bool.or_eq_true, Bool.and_eq_true, decide_eq_true_eq, List.any_eq_true, Bool.not_eq_true']
    by_cases c : z = false ∧ s.1 = s.2
    · exact .inl c
    · refine .inr ?_
      have hx : covP z s (2 * s.1) := by
        unfold covP
        cases z <;> simp at c ⊢ <;> omega
      obtain ⟨p, hp, c1, c2⟩ := h1 _ hx
      have hg : gapd l = true := by unfold oneF at h; rw [Bool.and_eq_true] at h; exact h.2
      have hle := oneF_le h
      refine ⟨p, hp, by omega, Classical.byContradiction fun hn => ?_⟩
      have hp2 : s.1 ≤ p.2 := by cases z <;> simp at c2 <;> omega
      have hy : covP z s (2 * p.2 + 1) := ⟨by omega, by split <;> omega⟩
      obtain ⟨q, hq, d1, d2⟩ := h1 _ hy
      have := hle p hp
      rcases gapd_apart hg hle p hp q hq with e | e | e
      · subst e
        cases z <;> simp at d2
        omega
      · omega
      · cases z <;> simp at d2 <;> omega
theorem joinG_len : ∀ (l : List Pr) (c : Pr), (joinG c l).length ≤ l.length + 1
  | [], c => Nat.le_refl _
  | p :: r, c => by
    unfold joinG
    split
    · have := joinG_len r p; simp; omega
    · have := joinG_len r (c.1, if c.2 < p.2 then p.2 else c.2); simp; omega
theorem joinM_len (l : List Pr) : (joinM l).length ≤ l.length + 1 := by
  cases l with
  | nil => exact Nat.zero_le _
  | cons p r => exact joinG_len (p :: r) p
theorem union_len (z : Bool) (l : List Pr) : (unionM z l).length ≤ l.length + 1 := by
  unfold unionM
  refine Nat.le_trans (joinM_len _) (Nat.succ_le_succ ?_)
  rw [(srt_perm _).length_eq]
  exact List.length_filter_le ..
theorem union_union (z : Bool) (l : List Pr) : unionM z (unionM z l) = unionM z l := union_is (union_one z l) fun _ => Iff.rfl
/-- a property of the pairs that joining keeps -/
theorem union_keeps {z : Bool} {G : Pr → Prop} (ext : ∀ c p : Pr, G c → G p → c.2 < p.2 → G (c.1, p.2)) {l : List Pr} (h : ∀ p ∈ l, G p) : ∀ p ∈ unionM z l, G p := by
  have jg : ∀ (l : List Pr) (c : Pr), G c → (∀ p ∈ l, G p) → ∀ p ∈ joinG c l, G p := by
    intro l
    induction l with
    | nil => intro c hc _ p hp; rw [joinG] at hp; exact (List.mem_singleton.mp hp) ▸ hc
    | cons q r ih =>
      intro c hc hl p hp
      unfold joinG at hp
      split at hp
      · rcases List.mem_cons.mp hp with e | hp
        · exact e ▸ hc
        · exact ih q (hl q (by simp)) (fun x hx => hl x (by simp [hx])) p hp
      · refine ih _ ?_ (fun x hx => hl x (by simp [hx])) p hp
        split
        · exact ext c q hc (hl q (by simp)) (by assumption)
        · exact hc
  have hl : ∀ p ∈ srt (l.filter fun p => !emp z p), G p := fun p hp => h p (List.mem_filter.mp ((srt_perm _).mem_iff.mp hp)).1
  unfold unionM
  generalize srt (l.filter fun p => !emp z p) = k at hl
  cases k with
  | nil => intro p hp; simp [joinM] at hp
  | cons q r => exact jg (q :: r) q (hl q (by simp)) hl
theorem any_filter {l : List Pr} {f : Pr → Bool} : (!decide (l.filter f = [])) = l.any f := by
  induction l with
  | nil => rfl
  | cons p r ih =>
    cases e : f p with
    | true => rw [List.filter_cons_of_pos e, List.any_cons, e]; simp
    | false => rw [List.filter_cons_of_neg (by rw [e]; decide), List.any_cons, e, Bool.false_or, ih]
end Spk
namespace Spk
theorem oneF_cons_mem {z : Bool} {l : List Pr} (h : oneF z l = true) {p : Pr} (hp : p ∈ l) : emp z p = false := by
  unfold oneF at h
  rw [Bool.and_eq_true, List.all_eq_true] at h
  simpa using h.1 p hp
end Spk

namespace Spk
/-! ### what the wishes for answers count -/
def mx (m n : Int) : Int := if n > m then n else m
def mn (m n : Int) : Int := if n < m then n else m
/-- have two stretches a moment in common -/
def meetB (z : Bool) (p q : Pr) : Bool := decide (mx p.1 q.1 < mn p.2 q.2) || (z && decide (mx p.1 q.1 = mn p.2 q.2))
theorem meet_emp (z : Bool) (p q : Pr) : meetB z p q = !emp z (mx p.1 q.1, mn p.2 q.2) := by
  unfold meetB emp
  rw [Bool.eq_iff_iff]
  cases z <;> simp <;> omega
theorem meet_symm {z : Bool} {p q : Pr} : meetB z p q = meetB z q p := by
  unfold meetB mx mn
  rw [Bool.eq_iff_iff]
  cases z <;> simp only [Bool.or_eq_true, Bool.and_eq_true, decide_eq_true_eq, Bool.false_and, Bool.true_and, Bool.false_eq_true, or_false] <;> (repeat' split) <;> omega
theorem meet_not {z : Bool} {p q : Pr} (h : emp z p = true ∨ emp z q = true) (hp : p.1 ≤ p.2) (hq : q.1 ≤ q.2) : meetB z p q = false := by
  rw [meet_emp]
  unfold emp mx mn at *
  rw [Bool.not_eq_false']
  cases z <;> simp only [Bool.false_eq_true, if_false, if_true, decide_eq_true_eq] at * <;> (repeat' split) <;> omega
theorem meet_srt {z : Bool} {p q : Pr} (h : q.1 ≤ p.1) (hp : emp z p = false) (hq : emp z q = false) : meetB z p q = !emp z (p.1, q.2) := by
  rw [meet_emp]
  congr 1
  rw [Bool.eq_iff_iff]
  unfold emp mx mn at *
  cases z <;> simp only [Bool.false_eq_true, if_false, if_true, decide_eq_true_eq, decide_eq_false_iff_not] at * <;> (repeat' split) <;> omega
/-- no two of them meet -/
def Apart (z : Bool) (ps : List Pr) : Prop := ps.Pairwise fun q p => meetB z p q = false
instance {z : Bool} {ps : List Pr} : Decidable (Apart z ps) := inferInstanceAs (Decidable (List.Pairwise _ _))
def clashB (z : Bool) (ps : List Pr) : Bool := !decide (Apart z ps)
theorem apart_perm {z : Bool} {l k : List Pr} (h : l.Perm k) : Apart z l ↔ Apart z k :=
  h.pairwise_iff fun {x y} e => by rw [meet_symm]; exact e
theorem apart_filter {z : Bool} {l : List Pr} (h : ∀ p ∈ l, p.1 ≤ p.2) : Apart z (l.filter fun p => !emp z p) ↔ Apart z l := by
  unfold Apart
  rw [List.pairwise_filter]
  constructor
  · intro k
    refine k.imp_of_mem fun {q p} hq hp r => ?_
    cases eq : emp z q with
    | true => exact meet_not (.inr eq) (h p hp) (h q hq)
    | false =>
      cases ep : emp z p with
      | true => exact meet_not (.inl ep) (h p hp) (h q hq)
      | false => exact r (by rw [eq]; rfl) (by rw [ep]; rfl)
  · intro k
    exact k.imp fun {q p} r _ _ => r
/-- the loop of has_clash -/
def clashF (z : Bool) : Int → List Pr → Bool
  | _, [] => false
  | r, p :: l => if (decide (r > -10000000000000000000000000000000) && !emp z (p.1, r)) = true then true else clashF z (mx r p.2) l
theorem emp_mx {z : Bool} {b x y : Int} : emp z (b, mx x y) = (emp z (b, x) && emp z (b, y)) := by
  rw [Bool.eq_iff_iff]
  unfold emp mx
  cases z <;> simp only [Bool.false_eq_true, if_false, if_true, Bool.and_eq_true, decide_eq_true_eq] <;> split <;> omega
theorem clashF_no {z : Bool} : ∀ (l : List Pr) (r : Int), (∀ p ∈ l, -10000000000000000000000000000000 < p.2) →
    (clashF z r l = false ↔ (∀ p ∈ l, r > -10000000000000000000000000000000 → emp z (p.1, r) = true) ∧ l.Pairwise fun q p => emp z (p.1, q.2) = true)
  | [], r, _ => by simp [clashF]
  | p :: l, r, h => by
    have hp := h p (by simp)
    have ih := clashF_no (z := z) l (mx r p.2) fun q hq => h q (by simp [hq])
    have g : mx r p.2 > -10000000000000000000000000000000 := by unfold mx; split <;> omega
    rw [List.pairwise_cons]
    unfold clashF
    by_cases c : (decide (r > -10000000000000000000000000000000) && !emp z (p.1, r)) = true
    · rw [if_pos c]
      refine ⟨(fun x => nomatch x), fun x => ?_⟩
      rw [Bool.and_eq_true, decide_eq_true_eq] at c
      have := x.1 p (by simp) c.1
      rw [this] at c
      exact absurd c.2 (by decide)
    · rw [if_neg c, ih]
      have c' : r > -10000000000000000000000000000000 → emp z (p.1, r) = true := fun hr => by
        cases e : emp z (p.1, r) with
        | true => rfl
        | false => exact absurd (by rw [e, decide_eq_true hr]; rfl) c
      constructor
      · rintro ⟨h1, h2⟩
        refine ⟨fun q hq hr => ?_, fun q hq => ?_, h2⟩
        · rcases List.mem_cons.mp hq with e | hq
          · rw [e]; exact c' hr
          · have := h1 q hq g
            rw [emp_mx, Bool.and_eq_true] at this
            exact this.1
        · have := h1 q hq g
          rw [emp_mx, Bool.and_eq_true] at this
          exact this.2
      · rintro ⟨h1, h2, h3⟩
        refine ⟨fun q hq _ => ?_, h3⟩
        rw [emp_mx, Bool.and_eq_true]
        refine ⟨?_, h2 q hq⟩
        by_cases hr : r > -10000000000000000000000000000000
        · exact h1 q (by simp [hq]) hr
        · have := h2 q hq
          have hh := h p (by simp)
          unfold emp at this ⊢
          cases z <;> simp only [Bool.false_eq_true, if_false, if_true, decide_eq_true_eq] at * <;> omega
theorem clash_is {z : Bool} {ps : List Pr} (h1 : ∀ p ∈ ps, p.1 ≤ p.2) (h2 : ∀ p ∈ ps, -10000000000000000000000000000000 < p.2) :
    clashF z (-10000000000000000000000000000000) (srt (ps.filter fun p => !emp z p)) = clashB z ps := by
  have hm : ∀ p ∈ srt (ps.filter fun p => !emp z p), p ∈ ps ∧ emp z p = false := fun p hp => by
    have := List.mem_filter.mp ((srt_perm _).mem_iff.mp hp)
    exact ⟨this.1, by simpa using this.2⟩
  have e : clashF z (-10000000000000000000000000000000) (srt (ps.filter fun p => !emp z p)) = false ↔ Apart z ps := by
    rw [clashF_no _ _ fun p hp => h2 p (hm p hp).1, ← apart_filter h1, ← apart_perm (srt_perm _)]
    constructor
    · rintro ⟨_, k⟩
      refine List.Pairwise.imp_of_mem (fun {q p} hq hp r => ?_) (k.and (srt_sorted _))
      have hle : q.1 ≤ p.1 := by have := r.2; unfold ple at this; omega
      rw [meet_srt hle (hm p hp).2 (hm q hq).2, r.1]; rfl
    · intro k
      refine ⟨fun p _ c => absurd c (by decide), List.Pairwise.imp_of_mem (fun {q p} hq hp r => ?_) (List.Pairwise.and k (srt_sorted _))⟩
      have hle : q.1 ≤ p.1 := by have := r.2; unfold ple at this; omega
      have := r.1
      rw [meet_srt hle (hm p hp).2 (hm q hq).2] at this
      simpa using this
  unfold clashB
  cases c : clashF z (-10000000000000000000000000000000) (srt (ps.filter fun p => !emp z p)) with
  | false => rw [decide_eq_true (e.mp c)]; rfl
  | true => rw [decide_eq_false fun x => by rw [e.mpr x] at c; cases c]; rfl
theorem clash_rev {z : Bool} {ps : List Pr} : clashB z ps.reverse = clashB z ps := by
  unfold clashB
  congr 1
  exact decide_eq_decide.mpr (apart_perm (List.reverse_perm ps))
/-- one more pair behind -/
theorem apart_take {z : Bool} {ps : List Pr} {k : Nat} {p : Pr} (h : ps[k]? = some p) : Apart z (ps.take (k + 1)) ↔ Apart z (ps.take k) ∧ ((ps.take k).any fun q => meetB z p q) = false := by
  have e : ps.take (k + 1) = ps.take k ++ [p] := by rw [List.take_add_one, h]; rfl
  unfold Apart
  rw [e, List.pairwise_append]
  simp only [List.pairwise_cons, List.not_mem_nil, false_imp_iff, implies_true, List.Pairwise.nil, and_true, List.mem_singleton, forall_eq, true_and, List.any_eq_false, Bool.not_eq_true]
/-! ### the law's own pieces -/
def pcGo : List Pr → Pr → List Pr × Pr
  | [], c => ([], c)
  | o :: r, c => if o.2 < c.1 ∨ c.2 < o.1 then (o :: (pcGo r c).1, (pcGo r c).2) else pcGo r (mn c.1 o.1, mx c.2 o.2)
def pcS (s : List Pr × Pr) (o : Pr) : List Pr × Pr := if o.2 < s.2.1 ∨ s.2.2 < o.1 then (s.1 ++ [o], s.2) else (s.1, (mn s.2.1 o.1, mx s.2.2 o.2))
theorem pcS_go : ∀ (l : List Pr) (a : List Pr) (c : Pr), l.foldl pcS (a, c) = (a ++ (pcGo l c).1, (pcGo l c).2)
  | [], a, c => by simp [pcGo]
  | o :: r, a, c => by
    rw [List.foldl_cons]
    unfold pcGo
    by_cases h : o.2 < c.1 ∨ c.2 < o.1
    · rw [if_pos h, show pcS (a, c) o = (a ++ [o], c) from if_pos h, pcS_go r (a ++ [o]) c]
      simp
    · rw [if_neg h, show pcS (a, c) o = (a, (mn c.1 o.1, mx c.2 o.2)) from if_neg h, pcS_go r a _]
def pcStep (z : Bool) (found : List Pr) (p : Pr) : List Pr := if (z || decide (p.1 < p.2)) = true then srt ((pcGo found p).1 ++ [(pcGo found p).2]) else found
def pieces (z : Bool) (ps : List Pr) : List Pr := ps.foldl (pcStep z) []
theorem pcGo_low {m : Int} : ∀ (l : List Pr) (c : Pr), (∀ o ∈ l, m < o.1) → m < c.1 → m < (pcGo l c).2.1
  | [], c, _, h => h
  | o :: r, c, hl, h => by
    unfold pcGo
    split
    · exact pcGo_low r c (fun x hx => hl x (by simp [hx])) h
    · refine pcGo_low r _ (fun x hx => hl x (by simp [hx])) ?_
      have := hl o (by simp)
      show m < mn c.1 o.1
      unfold mn; split <;> omega
theorem pcGo_far : ∀ (l : List Pr) (c : Pr), (∀ o ∈ l, c.2 < o.1) → pcGo l c = (l, c)
  | [], c, _ => rfl
  | o :: r, c, hl => by
    unfold pcGo
    rw [if_pos (.inr (hl o (by simp))), pcGo_far r c fun x hx => hl x (by simp [hx])]
theorem pcGo_sub : ∀ (l : List Pr) (c : Pr), (pcGo l c).1.Sublist l
  | [], c => .slnil
  | o :: r, c => by
    unfold pcGo
    split
    · exact (pcGo_sub r c).cons_cons o
    · exact (pcGo_sub r _).cons o
theorem pcGo_full {z : Bool} : ∀ (l : List Pr) (c : Pr), emp z c = false → emp z (pcGo l c).2 = false
  | [], c, h => h
  | o :: r, c, h => by
    unfold pcGo
    split
    · exact pcGo_full r c h
    · refine pcGo_full r _ ?_
      unfold emp mn mx at *
      cases z <;> simp only [Bool.false_eq_true, if_false, if_true, decide_eq_false_iff_not] at * <;> (repeat' split) <;> omega
def sep (a b : Pr) : Prop := a.2 < b.1 ∨ b.2 < a.1
theorem pcGo_sep : ∀ (l : List Pr) (c : Pr), gapd l = true → (∀ q ∈ l, q.1 ≤ q.2) → ∀ o ∈ (pcGo l c).1, sep o (pcGo l c).2
  | [], c, _, _, o, h => by simp [pcGo] at h
  | q :: r, c, g, hs, o, h => by
    have gr := gapd_tail g
    have hr : ∀ x ∈ r, x.1 ≤ x.2 := fun x hx => hs x (by simp [hx])
    have lt := gapd_lt g hr
    unfold pcGo at h ⊢
    split
    · rename_i hc
      rw [if_pos hc] at h
      rcases List.mem_cons.mp h with e | h
      · subst e
        rcases hc with hc | hc
        · exact .inl (pcGo_low r c lt hc)
        · rw [pcGo_far r c fun x hx => by have := lt x hx; have := hs o (by simp); omega]
          exact .inr hc
      · exact pcGo_sep r c gr hr o h
    · rename_i hc
      rw [if_neg hc] at h
      exact pcGo_sep r _ gr hr o h
theorem cov_mnx {z : Bool} {c o : Pr} (h1 : c.1 ≤ o.2) (h2 : o.1 ≤ c.2) (h3 : c.1 ≤ c.2) (h4 : o.1 ≤ o.2) {m : Int} : covP z (mn c.1 o.1, mx c.2 o.2) m ↔ covP z o m ∨ covP z c m := by
  unfold covP mn mx
  cases z <;> simp only [Bool.false_eq_true, if_false, if_true] <;> (repeat' split) <;> omega
theorem pcGo_cov {z : Bool} : ∀ (l : List Pr) (c : Pr), (∀ q ∈ l, q.1 ≤ q.2) → c.1 ≤ c.2 → ∀ m, (cov z (pcGo l c).1 m ∨ covP z (pcGo l c).2 m) ↔ (cov z l m ∨ covP z c m)
  | [], c, _, _, m => Iff.rfl
  | o :: r, c, hs, hc, m => by
    have hr : ∀ x ∈ r, x.1 ≤ x.2 := fun x hx => hs x (by simp [hx])
    have ho := hs o (by simp)
    unfold pcGo
    split
    · rw [cov_cons, cov_cons, or_assoc, or_assoc, pcGo_cov r c hr hc m]
    · rename_i h
      have h1 : c.1 ≤ o.2 ∧ o.1 ≤ c.2 := by omega
      rw [pcGo_cov r _ hr (by show mn c.1 o.1 ≤ mx c.2 o.2; unfold mn mx; (repeat' split) <;> omega) m, cov_mnx h1.1 h1.2 hc ho, cov_cons]
      constructor
      · rintro (a | a | a)
        · exact .inl (.inr a)
        · exact .inl (.inl a)
        · exact .inr a
      · rintro ((a | a) | a)
        · exact .inr (.inl a)
        · exact .inl a
        · exact .inr (.inr a)
theorem gapd_sep : ∀ {l : List Pr}, l.Pairwise ple → l.Pairwise sep → (∀ q ∈ l, q.1 ≤ q.2) → gapd l = true
  | [], _, _, _ => rfl
  | [_], _, _, _ => rfl
  | p :: q :: r, h1, h2, hs => by
    have a := (List.pairwise_cons.mp h1).1 q (by simp)
    have b := (List.pairwise_cons.mp h2).1 q (by simp)
    have hq := hs q (by simp)
    unfold gapd
    rw [gapd_sep (List.pairwise_cons.mp h1).2 (List.pairwise_cons.mp h2).2 fun x hx => hs x (by simp [hx]), Bool.and_true, decide_eq_true_eq]
    unfold ple at a
    unfold sep at b
    omega
theorem gapd_pw : ∀ {l : List Pr}, gapd l = true → (∀ q ∈ l, q.1 ≤ q.2) → l.Pairwise sep
  | [], _, _ => .nil
  | p :: r, g, hs => List.pairwise_cons.mpr ⟨fun q hq => .inl (gapd_lt g (fun x hx => hs x (by simp [hx])) q hq), gapd_pw (gapd_tail g) fun x hx => hs x (by simp [hx])⟩
theorem sep_symm {a b : Pr} (h : sep a b) : sep b a := h.symm
theorem pcStep_ok {z : Bool} {f : List Pr} {p : Pr} (h : oneF z f = true) (hp : p.1 ≤ p.2) : oneF z (pcStep z f p) = true ∧ ∀ m, cov z (pcStep z f p) m ↔ cov z f m ∨ covP z p m := by
  have hf := oneF_le h
  have h' := h
  unfold oneF at h
  rw [Bool.and_eq_true, List.all_eq_true] at h
  unfold pcStep
  by_cases c : (z || decide (p.1 < p.2)) = true
  · rw [if_pos c]
    have hpe : emp z p = false := by
      unfold emp
      cases z <;> simp at c ⊢ <;> omega
    have sub := pcGo_sub f p
    have full := pcGo_full f p hpe
    have mem : ∀ x ∈ srt ((pcGo f p).1 ++ [(pcGo f p).2]), emp z x = false := fun x hx => by
      rcases List.mem_append.mp ((srt_perm _).mem_iff.mp hx) with y | y
      · simpa using h.1 x (sub.subset y)
      · rw [List.mem_singleton.mp y]; exact full
    refine ⟨?_, fun m => ?_⟩
    · unfold oneF
      rw [Bool.and_eq_true, List.all_eq_true]
      refine ⟨fun x hx => by rw [mem x hx]; rfl, gapd_sep (srt_sorted _) ?_ fun x hx => emp_le (mem x hx)⟩
      refine ((srt_perm _).pairwise_iff fun {x y} e => sep_symm e).mpr ?_
      rw [List.pairwise_append]
      exact ⟨(gapd_pw h.2 hf).sublist sub, by simp, fun a ha b hb => by rw [List.mem_singleton.mp hb]; exact pcGo_sep f p h.2 hf a ha⟩
    · rw [cov_perm (srt_perm _), cov_app, cov_cons, ← pcGo_cov f p hf hp m]
      simp [cov_nil]
  · rw [if_neg c]
    refine ⟨h', fun m => ⟨Or.inl, fun x => x.elim id fun y => absurd y (emp_cov ?_ m)⟩⟩
    unfold emp
    cases z <;> simp at c ⊢ <;> omega
theorem pieces_ok {z : Bool} : ∀ (ps : List Pr) (f : List Pr), oneF z f = true → (∀ p ∈ ps, p.1 ≤ p.2) → oneF z (ps.foldl (pcStep z) f) = true ∧ ∀ m, cov z (ps.foldl (pcStep z) f) m ↔ cov z f m ∨ cov z ps m
  | [], f, h, _ => ⟨h, fun m => by simp [cov_nil]⟩
  | p :: r, f, h, hs => by
    obtain ⟨a, b⟩ := pcStep_ok (z := z) h (hs p (by simp))
    obtain ⟨c, d⟩ := pieces_ok r _ a fun x hx => hs x (by simp [hx])
    refine ⟨c, fun m => ?_⟩
    show cov z (r.foldl (pcStep z) (pcStep z f p)) m ↔ _
    rw [d m, b m, cov_cons, or_assoc]
theorem pieces_is {z : Bool} {ps : List Pr} (h : ∀ p ∈ ps, p.1 ≤ p.2) : pieces z ps = unionM z ps := by
  obtain ⟨a, b⟩ := pieces_ok (z := z) ps [] rfl h
  exact (union_is a fun m => by rw [b m]; simp [cov_nil]).symm
theorem pieces_len {z : Bool} {ps : List Pr} : (pieces z ps).length ≤ ps.length := by
  have : ∀ (l f : List Pr), (l.foldl (pcStep z) f).length ≤ f.length + l.length := by
    intro l
    induction l with
    | nil => intro f; simp
    | cons p r ih =>
      intro f
      have h1 := ih (pcStep z f p)
      have h2 : (pcStep z f p).length ≤ f.length + 1 := by
        unfold pcStep
        split
        · rw [(srt_perm _).length_eq, List.length_append, List.length_singleton]
          have := (pcGo_sub f p).length_le
          omega
        · omega
      rw [List.foldl_cons, List.length_cons]
      omega
  have := this ps []
  unfold pieces
  simpa using this
/-! ### the answers -/
def busyB (z : Bool) (ps : List Pr) (w : Pr) : Bool := ps.any fun p => meetB z p w
def covB (us : List Pr) (w : Pr) : Bool := us.any fun p => decide (p.1 ≤ w.1) && decide (w.2 ≤ p.2)
/-- t: 0 busy, 1 covered, 2 clash -/
def ansB (t : Nat) (z : Bool) (ps : List Pr) (w : Pr) : Bool := if t = 0 then busyB z ps w else if t = 1 then covB (unionM z ps) w else clashB z ps
theorem union_rev {z : Bool} {ps : List Pr} : unionM z ps.reverse = unionM z ps := union_eq_iff.mpr fun m => cov_perm (List.reverse_perm ps)
theorem ans_rev {t : Nat} {z : Bool} {ps : List Pr} {w : Pr} : ansB t z ps.reverse w = ansB t z ps w := by
  unfold ansB
  rw [clash_rev, union_rev, show busyB z ps.reverse w = busyB z ps w from List.any_reverse ..]
theorem ans_nil {t : Nat} {z : Bool} {w : Pr} : ansB t z [] w = false := by
  unfold ansB busyB clashB
  split
  · rfl
  · split
    · rfl
    · rw [decide_eq_true (show Apart z [] from .nil)]; rfl
end Spk

namespace Spk
open PySem PySem.Spec PyProof.Rows L2
/-! Defs that are run where no repr is under way: the layer's rule of a def, with that known of the place. -/
structure FnG (P : Program) (w : World) (K : PySem.W.Frag) (mg : Str → Option Value) (bh : Heap) (k : Nat) (f : Addr) (fd : FuncData) (ps : List Str) (sp : Sp) : Prop where
  lenG : ∀ ws J R U, sp ws J R U → ws.length = ps.length
  runG : ∀ (B : Around) (ou : List Env) (t : Shared) (J : Hp) (ar : Args) (xs : List Value) (ws : List V) (R : VK) (U : XK), B.guards = some [] → Room k B →
    Env0 P w K mg bh B ou t J → BindsTo t fd ar (ps.zip xs) → Vals ws xs → sp ws J R U →
    codeAny (model P w) B (.call (.ref f) ar) (CR CX0 ou P w J t R U) t
section
variable {P : Program} {w : World} {K : PySem.W.Frag} {mg : Str → Option Value} {bh : Heap}
theorem fnG_of {k : Nat} {f : Addr} {nm qu : Str} {pr : Arguments} {bd : List Stmt} {sc : Scope} {v1 v2 v3 v4 v5 v6 v7 : Value} {o1 o2 : Option Addr}
    {sl : Array (Option Value)} {N ps : List Str} {sp : Sp}
    (lk : K.lookup f = some ⟨v7, o2, .func (PySem.W.fnOf nm qu pr bd sc v1 v2 v3 v4 o1 v5 v6), sl⟩)
    (hcd : PySem.W.codeIn K v5 qu = true) (S : FnScope N ps sc)
    (ln : ∀ ws J R U, sp ws J R U → ws.length = ps.length)
    (hb : ∀ (B : Around) (ou : List Env) (t : Shared) (J : Hp) (ws : List V) (R : VK) (U : XK), B.guards = some [] →
      Room k (B.deeper (envOfC qu sc t.heap.objs.size f v5)) → sp ws J R U →
      ∃ tr, PSs (cxOf CX0 P w K mg bh N qu sc f v5 B ou t J U) bd tr ∧ tr { nx := fun _ J' => R .non J', rt := R } (L2.start N ws) J) :
    FnG P w K mg bh (k + 1) f (PySem.W.fnOf nm qu pr bd sc v1 v2 v3 v4 o1 v5 v6) ps sp := by
  refine ⟨ln, fun B ou t J ar xs ws R U hgd rm e0 bi rl hsp => ?_⟩
  have hlen := ln _ _ _ _ hsp
  have kin : K.In t.heap := e0.mod.kin.keeps fun z y q => (e0.bs z y q).1
  have nol : t.heap.NoLimit := e0.mod.nolimit.keeps fun z y q => (e0.bs z y q).1
  refine codeAny_call_function rm.depth (kin _ _ lk) rfl S.co S.gen rfl (PySem.W.codeRec_of kin hcd) (bi _ _ _ _ ?_)
  refine wpAny_newFunctionEnv_cells S.kind ?_ fun en hen s1 ic => ?_
  · rintro ⟨n, v⟩ hy
    exact (S.par n (List.of_mem_zip hy).1).imp id fun q => ⟨q, PySem.W.cellsFrom_some _ _ _ (.inl q)⟩
  · subst hen
    refine ⟨nol.keeps ic.toInCall.keep, codeAny_func ?_⟩
    obtain ⟨tr, htr, hq⟩ := hb B ou t J ws R U hgd (rm.deeper _) hsp
    have iv : Inv (cxOf CX0 P w K mg bh N qu sc f v5 B ou t J U) [] (L2.start N ws) J s1 := inv_start S rm.hd e0 hlen rl ic
    refine wpAny_mono (htr.run [] s1 (L2.start N ws) J _ iv hq) (fun fl s2 hs => ?_) fun _ _ hs => hs
    cases fl with
    | ret u =>
      obtain ⟨v, _, J', I', rv, q⟩ := hs
      exact ⟨v, J', I'.os, I'.bare, I'.base, I'.hok, rv, q⟩
    | next =>
      obtain ⟨_, J', I', q⟩ := hs
      exact ⟨.non, J', I'.os, I'.bare, I'.base, I'.hok, rfl, q⟩
    | brk => exact hs.elim fun _ h => h.elim fun _ h => h.2.elim
    | cont => exact hs.elim fun _ h => h.elim fun _ h => h.2.elim
theorem Fun.okG {x qu : Str} {st : Stmt} {f : Addr} {fd : FuncData} {N ps : List Str} {k : Nat} {sp : Sp} (F : Fun K x qu st f fd) (S : FnScope N ps (defScope st))
    (ln : ∀ ws J R U, sp ws J R U → ws.length = ps.length)
    (hb : ∀ (cv : Value) (B : Around) (ou : List Env) (t : Shared) (J : Hp) (ws : List V) (R : VK) (U : XK), B.guards = some [] →
      Room k (B.deeper (envOfC qu (defScope st) t.heap.objs.size f cv)) → sp ws J R U →
      ∃ tr, PSs (cxOf CX0 P w K mg bh N qu (defScope st) f cv B ou t J U).nox (defBody st) tr ∧ tr { nx := fun _ J' => R .non J', rt := R } (L2.start N ws) J) :
    FnG P w K mg bh (k + 1) f fd ps sp := by
  obtain ⟨_, _, _, _, _, _, cv, _, _, rfl, lk, hcd⟩ := F.ex
  refine fnG_of lk hcd S ln fun B ou t J ws R U hgd rm hsp => ?_
  obtain ⟨tr, h, q⟩ := hb cv B ou t J ws R U hgd rm hsp
  exact ⟨tr, h.nox, q⟩
theorem FnG.of {k : Nat} {f : Addr} {fd : FuncData} {ps : List Str} {sp : Sp} (F : FnOk P w K mg bh CX0 k f fd ps sp) : FnG P w K mg bh k f fd ps sp :=
  ⟨F.len, fun B ou t J ar xs ws R U _ rm e0 bi rl h => F.run B ou t J ar xs ws R U rm e0 bi rl h⟩
end
section
variable {X : Cx} {k : Nat} {f : Addr} {fd : FuncData} {ps : List Str} {sp : Sp} {dvs : List V} {ds : List Value} {x : Str} {p pos : Pos} {e : Expr} {es : List Expr} {t : TA}
theorem run_fnG {pins : List (Addr × Obj)} {σ : L2.St} {J : Hp} {s : Shared} {R : VK} {xs : List Value} {ws : List V} (F : FnG X.prog X.w X.K X.mg X.base k f fd ps sp) (gd : X.A.guards = some []) (rm : Room k X.A)
    (bi : Binds X.K fd ps ds) (dd : Vals dvs ds) (I : Inv X pins σ J s) (rl : Vals ws xs) (h : sp (ws ++ dvs) J R E0) :
    wpAny (model X.prog X.w) X.A (call (.ref f) xs) (EP X pins σ R) X.xe s := by
  have r2 : Vals (ws ++ dvs) (xs ++ ds) := rl.append dd
  have hl : (xs ++ ds).length = ps.length := r2.length.symm.trans (F.lenG _ _ _ _ h)
  refine wpAny_call (codeAny_mono (F.runG X.A X.stack s J ⟨xs, []⟩ (xs ++ ds) (ws ++ dvs) R E0 gd rm I.env0 (bi s xs I.kIn hl) r2 h) fun r s' hq => ?_)
  match r, hq with
  | .ok (.ret u), hq => exact I.after hq
/-- f(e, ..), f a def that wants no repr under way -/
theorem pe_callG (F : FnG X.prog X.w X.K X.mg X.base k f fd ps sp) (gd : X.A.guards = some []) (rm : Room k X.A) (hg : Gl X x) (hm : X.mg x = some (.ref f)) (hk : PySem.W.keepIn X.K (.ref f) = true)
    (bi : Binds X.K fd ps ds) (dd : Vals dvs ds) (ha : PA X (e :: es) t) (hdb : (x == ("__debug__" : Str)) = false := by decide)
    (he : starEach (e :: es) X.env = (false, eval e X.env) :: starEach es X.env := by rfl) (hpl : (backTo pos (starEach es X.env)).any (·.1) = false := by rfl) :
    PE X (.Call (.Name x p) (e :: es) [] pos) (tCall sp dvs E0 t) := by
  refine ⟨fun pins s σ J R I h => wpAny_Call_Name_kw (ld_glob I hg hm ?_ hdb)⟩
  refine PySem.W.callWith_K (h₀ := X.base) I.ok.mod.kin hk (thn (ha.run pos pins s σ J _ I h) fun xs s1 hh => ?_) he hpl
  obtain ⟨ws, J1, I1, rl, q⟩ := hh
  exact ⟨I1.kIn, run_fnG F gd rm bi dd I1 rl q⟩
/-- repr of data: None, bools, ints, texts, lists and tuples of these, where no repr is under way -/
def rRepr (K : PySem.W.Frag) : List V → Hp → VK → Prop := fun xs J R => ∃ (x : V) (d : PyData), xs = [x] ∧ Dp K J x d ∧ d.showable = true ∧ d.hasDict = false ∧ d.depth ≤ 64 ∧ d.shown.length ≤ sizeLine ∧ R (.str d.shown) J
theorem call_reprD (gd : X.A.guards = some []) (rm : Room k X.A) : CallR X (.builtin "repr") (rRepr X.K) := by
  intro pins s σ J xs us R I r h
  obtain ⟨x, d, rfl, dp, hs, hnd, hdep, hz, q⟩ := h
  have hu : X.A.units + (d.depth + 1) < cLine := by have := rm.un; omega
  obtain ⟨u, rfl, ru⟩ := vals1 r
  obtain ⟨as, rd⟩ := Dp.reads I d x u dp ru
  have fin : ∀ h' tk, (∀ b o, s.heap.get? b = some o → h'.get? b = some o) → ∀ t, EP X pins σ R (.str d.shown t) { s with heap := h', toks := tk } := fun h' tk hk t =>
    ⟨.str d.shown, J, I.kept (t' := tk) hk, ⟨t, rfl⟩, q⟩
  cases dp with
  | non =>
    obtain rfl : u = Value.none := ru
    refine PySem.P.repr_of_none ?_
    have := fin s.heap (s.toks + 1) (fun _ _ z => z) s.toks
    simpa only [PyData.shown_none] using this
  | bl b =>
    obtain rfl : u = Value.bool b := ru
    refine PySem.P.repr_of_bool ?_
    have := fin s.heap (s.toks + 1) (fun _ _ z => z) s.toks
    simp only [PyData.shown_bool] at this
    cases b <;> exact this
  | int i =>
    obtain ⟨t, rfl⟩ := ru
    refine PySem.P.repr_of_int (by simpa [PyData.showable] using hs) ?_
    have := fin s.heap (s.toks + 1) (fun _ _ z => z) s.toks
    simpa only [PyData.shown_int] using this
  | str y =>
    obtain ⟨t, rfl⟩ := ru
    refine PySem.P.repr_of_str ?_ (by simpa only [PyData.shown_str] using hz)
    have := fin s.heap (s.toks + 1) (fun _ _ z => z) s.toks
    simpa only [PyData.shown_str] using this
  | @lst a ys ds sq da =>
    obtain rfl : u = Value.ref a := ru
    exact repr_of_reads' rd hs (fun z => absurd z (by rw [hnd]; decide)) gd hu (fun _ _ z => z) (fun h' t tk hk => fin h' tk hk t) hz
  | @tup a ys ds sq da =>
    obtain rfl : u = Value.ref a := ru
    exact repr_of_reads' rd hs (fun z => absurd z (by rw [hnd]; decide)) gd hu (fun _ _ z => z) (fun h' t tk hk => fin h' tk hk t) hz
end
end Spk

namespace Spk
open PySem PySem.Spec PyProof.Rows L2
section
variable {P : Program} {w : World} {K : PySem.W.Frag} {mg mb : Str → Option Value} {k : Nat} {fa a : Addr} {fd : FuncData} {x : Str} {sp : Sp} {t : Shared} {zs : List Value} {ns : List Int}
def Fin1 (t : Shared) (r : Result) (u : Shared) : Prop := r = .ok (.ret (.bool true)) ∧ OldK t.heap u.heap ∧ u.os = t.os ∧ AllBare u.gens
/-- the law's call, from a heap that tracks nothing but the script (or nothing) -/
theorem coreG {J : Hp} (KX : K.In t.heap) (hns : t.heap.Ns mainGlobals mg) (hb : t.heap.Ns builtinsNs mb) (hbb : ∀ y : Str, y ≠ "__name__" → mb y = bootBuiltins y) (hlim : t.heap.NoLimit) (hg : t.gens = #[])
    (ha : t.heap.get? a = some { cls := .type "list", data := .seq zs.toArray }) (rm : Room k callerA)
    (F : ∀ bh : Heap, K.In bh → bh.Ns mainGlobals mg → FnG P w K mg bh k fa fd [x] sp) (bi : ∀ (s : Shared) (u : Value), BindsTo s fd ⟨[u], []⟩ [(x, u)])
    (hO : Only J) (hok : HOk P w J t.heap) (hA : ∀ b, J b ≠ none → b = a) (hK : J a ≠ none → K.lookup a = none)
    (hsp : sp [.ref a] J (fun v _ => v = .bl true) E0) : codeAny (model P w) callerA (.call (.ref fa) ⟨[.ref a], []⟩) (Fin1 t) t := by
  have gone : ∀ b o es ep, t.heap.get? b = some o → o.data = .dict es ep → J b = none := by
    intro b o es ep e d
    cases q : J b with
    | none => rfl
    | some u =>
      obtain rfl : b = a := hA b (by rw [q]; exact fun z => nomatch z)
      obtain rfl : _ = o := Option.some.inj (ha.symm.trans e)
      exact nomatch (show Data.seq zs.toArray _ = Data.dict es ep from d)
  have ns' : ∀ b m, t.heap.Ns b m → (hidT t.heap J).Ns b m := by
    rintro b m ⟨o, es, ep, e, d, r⟩
    exact ⟨o, es, ep, hidT_get e (gone b o es ep e d), d, r⟩
  have kb : K.In (hidT t.heap J) := by
    intro b o e
    refine hidT_get (KX b o e) ?_
    cases q : J b with
    | none => rfl
    | some u =>
      obtain rfl : b = a := hA b (by rw [q]; exact fun z => nomatch z)
      exact absurd e (by rw [hK (by rw [q]; exact fun z => nomatch z)]; exact fun z => nomatch z)
  have md : Mod K mg (hidT t.heap J) := ⟨kb, ns' _ _ hns, ⟨mb, ns' _ _ hb, hbb⟩, hlim.imp fun mc h => ⟨ns' _ _ h.1, h.2⟩⟩
  have e0 : Env0 P w K mg (hidT t.heap J) callerA [] t J :=
    { frames := rfl, mod := md, bs := fun _ _ e => of_hidT e, bsz := Nat.le_of_eq (hidT_size _ _), funs := trivial, frf := (fun _ h => nomatch h), hok := hok, bare := .of_eq hg }
  refine codeAny_mono ((F _ kb (ns' _ _ hns)).runG callerA [] t J ⟨[.ref a], []⟩ [.ref a] [.ref a] _ E0 rfl rm e0 (bi t (.ref a)) (.cons rfl .nil) hsp) fun r u h => ?_
  match r, h with
  | .ok (.ret y), h =>
    obtain ⟨v, J', os, bare, un, hok', ry, q⟩ := h
    obtain rfl : v = .bl true := q
    obtain rfl : y = Value.bool true := ry
    refine ⟨rfl, OldK.of_keep fun b o e => ?_, os, bare⟩
    rcases hO b with z | ⟨ob, xs, z⟩
    · exact un.keep b o e z (fun h => nomatch h) (fun h => nomatch h)
    · have e1 := (hok b _ z).1
      have e2 := (hok' b _ (un.frzs b ob _ z)).1
      exact e2.trans (e1.symm.trans e)
theorem lawG (KX : K.In t.heap) (hns : t.heap.Ns mainGlobals mg) (hb : t.heap.Ns builtinsNs mb) (hbb : ∀ y : Str, y ≠ "__name__" → mb y = bootBuiltins y) (hlim : t.heap.NoLimit) (hg : t.gens = #[])
    (ha : t.heap.get? a = some { cls := .type "list", data := .seq zs.toArray }) (hi : IntsAre zs ns) (hl : ns.length ≤ sizeLine) (rm : Room k callerA)
    (F : ∀ bh : Heap, K.In bh → bh.Ns mainGlobals mg → FnG P w K mg bh k fa fd [x] sp) (bi : ∀ (s : Shared) (u : Value), BindsTo s fd ⟨[u], []⟩ [(x, u)])
    (hsp : ∀ J : Hp, Only J → SqL K J a (ns.map V.int) → sp [.ref a] J (fun v _ => v = .bl true) E0) :
    codeAny (model P w) callerA (.call (.ref fa) ⟨[.ref a], []⟩) (Fin1 t) t := by
  have rv : Vals (ns.map V.int) zs := vals_ints hi
  have ll : zs.length ≤ sizeLine := by rw [← rv.length, List.length_map]; exact hl
  cases hk : K.lookup a with
  | some o =>
    obtain rfl : _ = o := Option.some.inj (ha.symm.trans (KX a o hk))
    have sq : SqL K (fun _ => none) a (ns.map V.int) := Or.inr ⟨_, zs.toArray, _, hk, rfl, rfl, rfl, by simpa using ll, by simpa using rv⟩
    exact coreG KX hns hb hbb hlim hg ha rm F bi (fun _ => Or.inl rfl) (fun _ _ z => nomatch z) (fun _ z => absurd rfl z) (fun z => absurd rfl z) (hsp _ (fun _ => Or.inl rfl) sq)
  | none =>
    let J : Hp := fun b => if b = a then some (.frz { cls := .type "list", data := .seq zs.toArray } (.lst (ns.map V.int))) else none
    have ja : J a = some (.frz { cls := .type "list", data := .seq zs.toArray } (.lst (ns.map V.int))) := if_pos rfl
    have jn : ∀ b, b ≠ a → J b = none := fun b h => if_neg h
    have ho : Only J := fun b => (Classical.em (b = a)).elim (fun e => Or.inr ⟨_, _, e ▸ ja⟩) fun e => Or.inl (jn b e)
    refine coreG KX hns hb hbb hlim hg ha rm F bi ho (fun b u z => ?_) (fun b z => Classical.byContradiction fun e => z (jn b e)) (fun _ => hk) (hsp J ho (Or.inl (Or.inr ⟨_, ja⟩)))
    by_cases e : b = a
    · subst e
      obtain rfl := Option.some.inj (ja.symm.trans z)
      exact ⟨ha, by rw [List.length_map]; exact hl, zs, _, rv, ha⟩
    · exact absurd ((jn b e).symm.trans z) fun z => nomatch z
end
theorem walkG {l : PySem.W.OpenLaw} {n k : Nat} {q : Program} {lo : List Str} {XP : (Str → Option Value) → Heap → Prop} {YP : World → Heap → Prop} {d : DefRec} {K : Params → PySem.W.Frag} {sp : World → Sp} {x : Str}
    (hn : l.most = some n) (hn2 : n ≤ sizeLine) (hdf : d.params.defaults = []) (rm : Room k callerA) (hY : ∀ (w : World) (h : Heap), YP w h → (K w.params).In h)
    (F : ∀ (w : World) (mg : Str → Option Value) (fa : Addr) (h : Heap), (K w.params).In h → h.Ns mainGlobals mg → mg d.name = some (.ref fa) →
      ∃ fd : FuncData, (∀ (s : Shared) (u : Value), BindsTo s fd ⟨[u], []⟩ [(x, u)]) ∧
        ∀ bh : Heap, (K w.params).In bh → bh.Ns mainGlobals mg → FnG l.prog w (K w.params) mg bh k fa fd [x] (sp w))
    (hsp : ∀ (w : World) (J : Hp) (a : Addr) (ns : List Int), ns.length ≤ n → Only J → SqL (K w.params) J a (ns.map V.int) → sp w [.ref a] J (fun v _ => v = .bl true) E0) :
    PySem.W.WalkO q lo XP YP l.row.toRowW d [] (fun f vs => PySem.call f vs) := by
  refine Att.attach_call hn hdf fun w s₀ t mg mb fa o pm cd doc a zs ns G Y ho hd hcd hmg hobj hints hlen hg => ?_
  obtain ⟨fd, bi, hF⟩ := F w mg fa _ (hY w _ Y) G.T.g hmg
  exact lawG (hY w _ Y) G.T.g G.T.b G.T.builtins G.T.nolimit hg hobj hints (Nat.le_trans hlen hn2) rm hF bi fun J hO hS => hsp w J a ns hlen hO hS
end Spk

namespace Spk
open PySem PySem.Spec PyProof.Rows L2
open AutoSeq1 (wpAny_loadPart')
theorem enumT_new (t : Addr) (its : Array Value) (n : Nat) (dct : Option Addr) (sl : Array (Option Value)) :
    Meets (Builtin.«enumerate.__new__» ⟨[.type "enumerate", .ref t], []⟩) (fun _ R s => s.heap.get? t = some { cls := .type "tuple", dict := dct, data := .seq its n, slots := sl } ∧
      R (.ok (.ret (.ref (s.heap.push { cls := .type "tuple_iterator", data := .fields #[.ref t, .int 0 0] }).objs.size)))
        { s with heap := (s.heap.push { cls := .type "tuple_iterator", data := .fields #[.ref t, .int 0 0] }).push { cls := .type "enumerate", data := .fields #[.none, .bool false, .ref s.heap.objs.size, rawInt 0, .none, .none] } }) :=
  .of_wp fun prog w A R s h => by
    obtain ⟨hp, g, d, tk, os⟩ := s; obtain ⟨ht, h⟩ := h
    have hsub := sub_enumerate
    have hT : Heap.IsTuple (Shared.heap ⟨hp, g, d, tk, os⟩) t its := ⟨_, ht, rfl, n, rfl⟩
    wp_walk using wpAny_loadPart' ht
    refine wpAny_stack_any fun st => wpAny_pure ?_
    split
    · rename_i c _ _ _ _ _
      cases (c == Value.type "enumerate") <;> (wp_walk using wpAny_loadPart' ht, wpAny_pyIter_tuple hT; exact ⟨_, rfl, h⟩)
    · wp_walk using wpAny_loadPart' ht, wpAny_pyIter_tuple hT
      exact ⟨_, rfl, h⟩
theorem mem2 {α : Type} {b x y : α} (h : b ∈ [x, y]) : b = x ∨ b = y := by simpa using h
section
variable {prog : Program} {w : World} {A : Around} {E : Value → Shared → Prop} {s : Shared}
theorem enumT_call {t : Addr} {its : Array Value} {Q : Value → Shared → Prop} (hT : s.heap.IsTuple t its)
    (h : ∀ g, IsEnum g (s.heap.objs.size + 1) s.heap.objs.size 0 .none → g.IsTupleIter s.heap.objs.size t 0 → g.objs.size = s.heap.objs.size + 2 →
      (∀ b o, s.heap.get? b = some o → g.get? b = some o) → Q (.ref (s.heap.objs.size + 1)) { s with heap := g }) :
    wpAny (model prog w) A (call (.type "enumerate") [.ref t]) Q E s := by
  obtain ⟨⟨c, dct, dt, sl⟩, ht, hc, n, hd⟩ := hT
  obtain rfl : c = .type "tuple" := hc
  obtain rfl : dt = .seq its n := hd
  refine callType_new F.called_enumerate (by decide) (F.typeCall_enumerate_1 _) (F.newCall_enumerate_1 _) (fun ob => F.args_object_init_2 ob _) F.entry_enumerate_new (enumT_new t its n dct sl) ⟨ht, ?_⟩
  have hz : (s.heap.push { cls := .type "tuple_iterator", data := .fields #[.ref t, .int 0 0] }).objs.size = s.heap.objs.size + 1 := Heap.size_push ..
  show _ ∧ _
  rw [hz]
  have he : IsEnum ((s.heap.push { cls := .type "tuple_iterator", data := .fields #[.ref t, .int 0 0] }).push
      { cls := .type "enumerate", data := .fields #[.none, .bool false, .ref s.heap.objs.size, rawInt 0, .none, .none] }) (s.heap.objs.size + 1) s.heap.objs.size 0 .none := by
    have q := Heap.get?_push_size (s.heap.push { cls := .type "tuple_iterator", data := .fields #[.ref t, .int 0 0] })
      (o := { cls := .type "enumerate", data := .fields #[.none, .bool false, .ref s.heap.objs.size, rawInt 0, .none, .none] }) rfl
    rw [hz] at q; exact q
  exact ⟨⟨_, he, rfl⟩, h _ he ⟨_, Heap.get?_push_of_some _ (Heap.get?_push_size _ rfl), rfl, rfl⟩ (by rw [Heap.size_push, hz]) fun b o q => Heap.get?_push_of_some _ (Heap.get?_push_of_some _ q)⟩
end
/-- enumerate(tuple): each item in a new pair -/
def ItE (K : PySem.W.Frag) (a : Addr) : It where
  go := fun i H => ∃ (xs : List V) (x : V), SqT K H a xs ∧ xs[i]? = some x
  yld := fun i H v H' => ∃ T x, v = .ref T ∧ H T = none ∧ H' = upd H T (.tup [.int (i : Nat), x]) ∧ ∀ xs, SqT K H a xs → xs[i]? = some x
  stop := fun i H => ∃ xs : List V, SqT K H a xs ∧ xs.length ≤ i
theorem turnE {P : Program} {w : World} {K : PySem.W.Frag} {elts : List Expr} {kk : Nat} {tpos : Pos} (a e it : Addr) (hai : a ≠ it) (hae : e ≠ a) :
    Turn P w K (.Tuple elts kk tpos) (ItE K a) [e, it] e (fun i h => (∃ old, IsEnum h e it ((i : Nat) : Int) old) ∧ h.IsTupleIter it a i ∧ e ≠ it) where
  mem := List.mem_cons_self
  obj := by
    rintro i h ⟨⟨old, he⟩, ⟨o, ho, hc, hd⟩, _⟩ b hb
    rcases mem2 hb with rfl | rfl
    · exact ⟨_, he, fun v q => nomatch q⟩
    · exact ⟨o, ho, fun v q => by rw [hd] at q; cases q⟩
  keep := by
    rintro i h h' ⟨⟨old, he⟩, hi, hne⟩ k
    exact ⟨⟨old, k e (by simp) _ he⟩, hi.at fun o q => k it (by simp) o q, hne⟩
  item := by
    intro X hP hw hK hc i pins s σ H E I hf st hg
    subst hP hw hK
    obtain ⟨⟨old, he⟩, hit, hne⟩ := st
    obtain ⟨xs, x, hq, hx⟩ := hg
    obtain ⟨its, rv, p, hz⟩ := I.tuple hq
    obtain ⟨u, hu, ru⟩ := rv.get hx
    have hu' : its.toArray[i]? = some u := by simpa using hu
    have hlt : i < its.toArray.size := by
      obtain ⟨h1, _⟩ := Array.getElem?_eq_some_iff.mp hu'
      exact h1
    have hT : s.heap.IsTuple a its.toArray := p
    have hel : e < s.heap.objs.size := Heap.lt_size he
    have hil : it < s.heap.objs.size := by obtain ⟨_, q, _⟩ := hit; exact Heap.lt_size q
    have D := Draws.tuple (prog := X.prog) (w := X.w) (A := X.A.in1) (I.ok.hd hc) it a hai its.toArray
    refine wpAny_pyNext_enum_itemD D he ⟨hit, hT⟩ hlt hne (fun hm => ?_) fun y g tk hy ho hst hTp hsz hk => ?_
    · rcases mem2 hm with z | z
      · exact hne z
      · exact hae z
    · obtain rfl : u = y := Option.some.inj (hu'.symm.trans hy)
      refine ⟨_, rfl, wpAny_letOwnedTupleGo_enum (s := { s with heap := g, toks := tk + 1 }) ho fun g2 he2 sb => ?_⟩
      have hT2 : g2.get? s.heap.objs.size = some { cls := .type "tuple", data := .seq #[.int i tk, u] } := (sb.2 _ (Nat.ne_of_gt hel)).trans hTp
      have new : ObjOk X.prog X.w (upd H s.heap.objs.size (.tup [.int (i : Nat), x])) g2 s.heap.objs.size (.tup [.int (i : Nat), x]) :=
        ⟨by show 2 ≤ sizeLine; decide, [.int i tk, u], .cons ⟨_, rfl⟩ (.cons ru .nil), ⟨_, hT2, rfl, _, rfl⟩⟩
      have I1 : Inv X pins σ (upd H s.heap.objs.size (.tup [.int (i : Nat), x])) { s with heap := g2, toks := tk + 1 } := by
        refine I.turnedNew (ch := [e, it]) (fun b ob hb q => ?_) hf (Nat.le_refl _) new
        have n1 : b ≠ e := fun z => hb (by simp [z])
        have n2 : b ≠ it := fun z => hb (by simp [z])
        exact (sb.2 b n1).trans (hk b ob n1 n2 q)
      refine ⟨.ref s.heap.objs.size, _, I1, rfl, ⟨_, x, rfl, I.hok.fresh (Nat.le_refl _), rfl, fun ys hy => by rw [I.tuple_inj hy hq]; exact hx⟩, ⟨⟨u, ?_⟩, hst.1.at fun o q => (sb.2 it (Ne.symm hne)).trans q, hne⟩, fun b hb => ?_⟩
      · have e1 : ((i + 1 : Nat) : Int) = (i : Int) + 1 := by omega
        rw [e1]; exact he2
      · have hlb : b < s.heap.objs.size := by rcases mem2 hb with rfl | rfl <;> assumption
        exact (upd_ne (Nat.ne_of_lt hlb)).trans (hf b hb).1
  done := by
    intro X hP hw hK hc i pins s σ H E I hf st hg
    subst hP hw hK
    obtain ⟨⟨old, he⟩, hit, hne⟩ := st
    obtain ⟨xs, hq, hx⟩ := hg
    obtain ⟨its, rv, p, hz⟩ := I.tuple hq
    obtain ⟨f0, f1, f2, f3, f4, f5⟩ := hf it (by simp)
    have hT : s.heap.IsTuple a its.toArray := p
    have hl := rv.length
    have hT2 : its.toArray[i]? = none := by simp; omega
    refine (show wpAny (model X.prog X.w) X.A (pyNext (.ref e)) _ E s from ?_)
    have hTy : s.TypeIs (.ref e) "enumerate" := ⟨_, he, rfl⟩
    unfold pyNext
    refine wpAny_bind (wpAny_attempt (wpAny_callSpecial?_slot (name := Str.ofString "__next__") hTy F.slot_enumerate_next
      (wpAny_call_entry F.slot_enumerate_next hTy F.entry_enumerate_next ?_ (F.args_enumerate_next_1 _))))
    show wpAny _ _ (field (.ref e) 2 >>= _) _ _ _
    refine wpAny_bind (wpAny_field he rfl (x := .ref it) rfl ?_)
    refine wpAny_bind (wpAny_nextOf_tuple_end (I.ok.hd hc) hit hT hT2 fun g x eb hx' => ?_)
    obtain ⟨o, ho, hcl⟩ := hx'
    refine wpAny_bind (wpAny_isInstance (T := "StopIteration") (b := true) ⟨o, ho, hcl⟩ isSubtype_stop ?_)
    exact wpAny_pure ⟨rfl, I.turned (t' := s.toks) (fun b o hb q => eb b o hb q) f0 f1 f3 f4 f5⟩
  self := by
    rintro A i s Q E ⟨⟨_, he⟩, _⟩ h
    exact wpAny_pyIter_enum he h
theorem walkE {K : PySem.W.Frag} {a : Addr} {xs : List V} : Walk (ItE K a) xs.length (fun H => SqT K H a xs) (YPair (fun i => some (.int (i : Nat))) (fun i => xs[i]?)) where
  goes := fun i _ hi q => ⟨xs, xs[i], q, by simp [hi]⟩
  stops := fun _ q => ⟨xs, q, Nat.le_refl _⟩
  yields := by
    rintro i H v H' _ q ⟨T, x, h1, h2, h3, h4⟩
    exact ⟨T, .int (i : Nat), x, h1, h2, h3, rfl, h4 xs q⟩
/-- a list or a tuple -/
def Sq (K : PySem.W.Frag) (H : Hp) (a : Addr) (xs : List V) : Prop := SqL K H a xs ∨ SqT K H a xs
/-- what was read at a is still to be read there -/
def SqK (K : PySem.W.Frag) (H H' : Hp) (a : Addr) (xs : List V) : Prop := (SqL K H a xs → SqL K H' a xs) ∧ (SqT K H a xs → SqT K H' a xs)
/-- enumerate(x), x a list or a tuple -/
def iEn (K : PySem.W.Frag) (ta : TA) : TI := fun σ H R => ta σ H fun vs H1 => ∃ a xs, vs = [.ref a] ∧ Sq K H1 a xs ∧
  ∀ J, Walk J xs.length (fun H => SqK K H1 H a xs) (YPair (fun i => some (.int (i : Nat))) (fun i => xs[i]?)) → R J H1
/-- x, a list or a tuple -/
def iSq (K : PySem.W.Frag) (tl : TE) : TI := fun σ H R => tl σ H fun x H1 => ∃ a xs, x = .ref a ∧ Sq K H1 a xs ∧
  ∀ J, Walk J xs.length (fun H => SqK K H1 H a xs) (YAt xs) → R J H1
section
variable {X : Cx}
theorem pi_en {e : Expr} {ta : TA} {p pos tpos : Pos} {elts : List Expr} {kk : Nat} (hg : Gl X "enumerate") (hm : X.mg "enumerate" = none) (ha : PA X [e] ta) (hs : starEach [e] X.env = [(false, eval e X.env)] := by rfl) :
    PI X (.Tuple elts kk tpos) (.Call (.Name "enumerate" p) [e] [] pos) (iEn X.K ta) := by
  refine ⟨fun pins s σ H R I h => Call_ (ld_blt I hg hm boot_enumerate (PyProof.Rows.callWith_type1 (thn (ha.run pos pins s σ H _ I h) fun us s1 hh => ?_) hs rfl))⟩
  obtain ⟨vs, H1, I1, r1, a, xs, rfl, hq, q⟩ := hh
  obtain ⟨u, rfl, ru⟩ := vals1 r1
  obtain rfl : u = Value.ref a := ru
  have fp : ∀ b ∈ [s1.heap.objs.size + 1, s1.heap.objs.size], FpOk X pins H1 b := fun b hb => by
    have hle : s1.heap.objs.size ≤ b := by rcases mem2 hb with rfl | rfl <;> omega
    exact I1.fpOk hle (I1.hok.fresh hle)
  rcases hq with hq | hq
  · obtain ⟨its, rv, p', hz⟩ := I1.list hq
    refine call_enumerate_list p'.isList fun g he hit hsz hk => wpAny_pyIter_enum he ?_
    exact ⟨s1.heap.objs.size + 1, [s1.heap.objs.size + 1, s1.heap.objs.size], _, _, H1, rfl, I1.kept (t' := s1.toks) hk, turn_enum a _ _, ⟨⟨.none, he⟩, hit, Nat.succ_ne_self _⟩, fp, q _ (walk_enum.mono (fun _ z => z.1 hq) fun _ _ _ _ _ _ y => y)⟩
  · obtain ⟨its, rv, p', hz⟩ := I1.tuple hq
    have hT : s1.heap.IsTuple a its.toArray := p'
    have hlt : a < s1.heap.objs.size := by obtain ⟨_, z, _⟩ := hT; exact Heap.lt_size z
    refine enumT_call hT fun g he hit hsz hk => wpAny_pyIter_enum he ?_
    exact ⟨s1.heap.objs.size + 1, [s1.heap.objs.size + 1, s1.heap.objs.size], _, _, H1, rfl, I1.kept (t' := s1.toks) hk, turnE a _ _ (Nat.ne_of_lt hlt) (Nat.ne_of_gt (Nat.lt_succ_of_lt hlt)), ⟨⟨.none, he⟩, hit, Nat.succ_ne_self _⟩, fp, q _ (walkE.mono (fun _ z => z.2 hq) fun _ _ _ _ _ _ y => y)⟩
theorem pi_sq {tg l : Expr} {tl : TE} (hl : PE X l tl) : PI X tg l (iSq X.K tl) := by
  refine ⟨fun pins s σ H R I h => thn (hl.run pins s σ H _ I h) fun v s1 hh => ?_⟩
  obtain ⟨x, H1, I1, r1, a, xs, rfl, hq, q⟩ := hh
  obtain rfl : v = Value.ref a := r1
  have fp : ∀ b ∈ [s1.heap.objs.size], FpOk X pins H1 b := fun b hb => by
    obtain rfl : b = s1.heap.objs.size := by simpa using hb
    exact I1.fpOk (Nat.le_refl _) (I1.hok.fresh (Nat.le_refl _))
  rcases hq with hq | hq
  · obtain ⟨its, rv, p, hz⟩ := I1.list hq
    exact wpAny_pyIter_list p.isList ⟨s1.heap.objs.size, [s1.heap.objs.size], _, _, H1, rfl, I1.kept (t' := s1.toks) fun _ _ z => Heap.get?_push_of_some _ z, turn_list a _, ⟨_, Heap.get?_push_size _ rfl, rfl, rfl⟩, fp, q _ (walk_list.mono (fun _ z => z.1 hq) fun _ _ _ _ _ _ y => y)⟩
  · obtain ⟨its, rv, p, hz⟩ := I1.tuple hq
    have hT : s1.heap.IsTuple a its.toArray := p
    exact wpAny_pyIter_tuple hT ⟨s1.heap.objs.size, [s1.heap.objs.size], _, _, H1, rfl, I1.kept (t' := s1.toks) fun _ _ z => Heap.get?_push_of_some _ z, turn_tuple a _, ⟨_, Heap.get?_push_size _ rfl, rfl, rfl⟩, fp, q _ (walk_tup.mono (fun _ z => z.2 hq) fun _ _ _ _ _ _ y => y)⟩
end
end Spk

namespace Spk
open PySem PySem.Spec PyProof.Rows L2
/-! ### a def that may be called -/
structure Rdy (P : Program) (w : World) (K : PySem.W.Frag) (mg : Str → Option Value) (bh : Heap) (x : Str) (k : Nat) (ps : List Str) (sp : Sp) (f : Addr) (fd : FuncData) : Prop where
  ok : FnOk P w K mg bh CX0 k f fd ps sp
  gl : mg x = some (.ref f)
  kp : PySem.W.keepIn K (.ref f) = true
  bd : Binds K fd ps []
/-- a def with defaults -/
structure RdyD (P : Program) (w : World) (K : PySem.W.Frag) (mg : Str → Option Value) (bh : Heap) (x : Str) (k : Nat) (ps : List Str) (dvs : List V) (sp : Sp) (f : Addr) (fd : FuncData) : Prop where
  ok : FnOk P w K mg bh CX0 k f fd ps sp
  gl : mg x = some (.ref f)
  kp : PySem.W.keepIn K (.ref f) = true
  bd : Binds K fd ps []
  bd1 : ∃ ds, Vals dvs ds ∧ Binds K fd ps ds
section
variable {X : Cx} {x : Str} {k j : Nat} {ps : List Str} {dvs : List V} {sp : Sp} {f : Addr} {fd : FuncData} {p pos : Pos} {e : Expr} {es : List Expr} {t : TA}
theorem pe_rdy (R : Rdy X.prog X.w X.K X.mg X.base x k ps sp f fd) (rm : Room j X.A) (hj : k ≤ j) (hg : Gl X x) (ha : PA X (e :: es) t) (hdb : (x == ("__debug__" : Str)) = false := by decide)
    (he : starEach (e :: es) X.env = (false, eval e X.env) :: starEach es X.env := by rfl) (hpl : (backTo pos (starEach es X.env)).any (·.1) = false := by rfl) :
    PE X (.Call (.Name x p) (e :: es) [] pos) (tCall sp [] E0 t) := pe_call R.ok (rm.mono hj) hg R.gl R.kp R.bd .nil pass0 ha hdb he hpl
theorem pe_rdyD (R : RdyD X.prog X.w X.K X.mg X.base x k ps dvs sp f fd) (rm : Room j X.A) (hj : k ≤ j) (hg : Gl X x) (ha : PA X (e :: es) t) (hdb : (x == ("__debug__" : Str)) = false := by decide)
    (he : starEach (e :: es) X.env = (false, eval e X.env) :: starEach es X.env := by rfl) (hpl : (backTo pos (starEach es X.env)).any (·.1) = false := by rfl) :
    PE X (.Call (.Name x p) (e :: es) [] pos) (tCall sp [] E0 t) := pe_call R.ok (rm.mono hj) hg R.gl R.kp R.bd .nil pass0 ha hdb he hpl
/-- the last argument left out -/
theorem pe_rdyD1 (R : RdyD X.prog X.w X.K X.mg X.base x k ps dvs sp f fd) (rm : Room j X.A) (hj : k ≤ j) (hg : Gl X x) (ha : PA X (e :: es) t) (hdb : (x == ("__debug__" : Str)) = false := by decide)
    (he : starEach (e :: es) X.env = (false, eval e X.env) :: starEach es X.env := by rfl) (hpl : (backTo pos (starEach es X.env)).any (·.1) = false := by rfl) :
    PE X (.Call (.Name x p) (e :: es) [] pos) (tCall sp dvs E0 t) := by
  obtain ⟨ds, hv, bd⟩ := R.bd1
  exact pe_call R.ok (rm.mono hj) hg R.gl R.kp bd hv pass0 ha hdb he hpl
/-! ### a word between a statement and what follows -/
def tMid (t u : TS) : TS := fun D σ H => ∃ M : L2.St → Hp → Prop, t { D with nx := M } σ H ∧ ∀ τ J, M τ J → u D τ J
theorem pss_mid {st : Stmt} {sts : List Stmt} {t u : TS} (a : PS X st t) (b : PSs X sts u) : PSs X (st :: sts) (tMid t u) := by
  refine ⟨fun pins s σ H D I h => h.elim fun M h => ?_⟩
  refine wpAny_execs_cons (thn (a.run pins s σ H { D with nx := M } I h.1) fun fl s1 q => ?_)
  match fl, q with
  | .next, q =>
    obtain ⟨τ, J, I', q⟩ := q
    exact b.run pins s1 τ J D I' (h.2 τ J q)
  | .ret _, q => exact q
  | .brk, q => exact q
  | .cont, q => exact q
/-- an item of a tuple, the written part named -/
theorem ix_tupK {K : PySem.W.Frag} (h : X.K = K := by rfl) : IxR X (rIxT K) := h ▸ ix_tup
theorem ix_listK {K : PySem.W.Frag} (h : X.K = K := by rfl) : IxR X (rIxL K) := h ▸ ix_list
/-! ### constants of the module, of a class -/
theorem pe_globI {i : Int} (h : ∃ t, X.mg x = some (.int i t)) (hg : Gl X x) (hd : (x == ("__debug__" : Str)) = false := by decide) : PE X (.Name x pos) (tC (.int i)) := by
  obtain ⟨t, h⟩ := h
  exact pe_glob hg h ⟨t, rfl⟩ hd
/-- the class Ends, as the top has left it -/
structure EndsT (K : PySem.W.Frag) (mg : Str → Option Value) : Prop where
  ex : ∃ (C : Addr) (mc u1 u2 : Value), mg "Ends" = some (.ref C) ∧ ClX.CRead K C mc ∧ ClX.CVal K C mc "HALF" (.str "half") u1 ∧ ClX.CVal K C mc "SHUT" (.str "shut") u2
theorem pe_half (h : EndsT X.K X.mg) (hg : Gl X "Ends") (hb : attributeBase (.Name "Ends" p) "HALF" X.env (eval (.Name "Ends" p) X.env) = eval (.Name "Ends" p) X.env := by rfl) :
    PE X (.Attribute (.Name "Ends" p) "HALF" pos) (tC (.str "half")) := by
  obtain ⟨C, mc, u1, u2, g, r, a, b⟩ := h.ex
  have q := ClX.pe_cval (X := X) (f := "HALF") (pos := pos) (pe_glob (v := .ref C) (pos := p) hg g rfl) hb
  exact ⟨fun pins s σ H R I z => q.run pins s σ H R I ⟨C, mc, _, u1, rfl, r, a, z⟩⟩
theorem pe_shut (h : EndsT X.K X.mg) (hg : Gl X "Ends") (hb : attributeBase (.Name "Ends" p) "SHUT" X.env (eval (.Name "Ends" p) X.env) = eval (.Name "Ends" p) X.env := by rfl) :
    PE X (.Attribute (.Name "Ends" p) "SHUT" pos) (tC (.str "shut")) := by
  obtain ⟨C, mc, u1, u2, g, r, a, b⟩ := h.ex
  have q := ClX.pe_cval (X := X) (f := "SHUT") (pos := pos) (pe_glob (v := .ref C) (pos := p) hg g rfl) hb
  exact ⟨fun pins s σ H R I z => q.run pins s σ H R I ⟨C, mc, _, u2, rfl, r, b, z⟩⟩
end

/-! ### defs with defaults, calls by keywords alone -/
section
variable {P : Program} {w : World} {K : PySem.W.Frag} {mg : Str → Option Value} {bh : Heap} {x qu : Str} {st : Stmt} {dvs : List V} {f : Addr} {fd : FuncData} {N ps : List Str} {k : Nat} {sp : Sp}
theorem okD (F : FunD K x qu (defArgs st) (defBody st) (defScope st) dvs [] f fd) (S : FnScope N ps (defScope st)) (ln : ∀ vs H Q E, sp vs H Q E → vs.length = ps.length)
    (hb : ∀ (cv : Value) (B : Around) (ou : List Env) (t : Shared) (J : Hp) (ws : List V) (R : VK) (U : XK), Room k (B.deeper (envOfC qu (defScope st) t.heap.objs.size f cv)) → sp ws J R U →
      ∃ tr, PSs (cxOf CX0 P w K mg bh N qu (defScope st) f cv B ou t J U).nox (defBody st) tr ∧ tr { nx := fun _ J' => R .non J', rt := R } (L2.start N ws) J) :
    FnOk P w K mg bh CX0 (k + 1) f fd ps sp := F.ok S ln fun cv B ou t J ws R U rm h => by
  obtain ⟨tr, q, z⟩ := hb cv B ou t J ws R U rm h
  exact ⟨tr, q.nox, z⟩
theorem bindsFull (F : FunD K x qu (defArgs st) (defBody st) (defScope st) dvs [] f fd) (hd : dvs ≠ [])
    (h : ∀ (T : Addr) (kV dc pm : Value) (an : Option Addr) (cv ct : Value) (us its : List Value), us.length = ps.length → its.length = dvs.length →
      ∃ kk, bindArgs (PySem.W.fnOf x qu (defArgs st) (defBody st) (defScope st) (.ref T) kV dc pm an cv ct) ⟨us, []⟩ = seqItems? (.ref T) >>= kk ∧ kk (some its.toArray) = pure (ps.zip us)) : Binds K fd ps [] := by
  obtain ⟨ds, hv, bd⟩ := FunD.binds1 (ps := ps) F ps.length dvs.length hd (by omega) fun T kV dc pm an cv ct us its h1 h2 => by
    obtain ⟨kk, e1, e2⟩ := h T kV dc pm an cv ct us its h1 h2
    have : its.drop dvs.length = [] := List.drop_eq_nil_of_le (by omega)
    rw [this, List.append_nil]
    exact ⟨kk, e1, e2⟩
  have e : dvs.drop dvs.length = [] := List.drop_eq_nil_of_le (Nat.le_refl _)
  rw [e] at hv
  cases hv
  exact bd
theorem kwAll (F : FunD K x qu (defArgs st) (defBody st) (defScope st) dvs [] f fd) (ks : List Str) (g : {α : Type} → List α → List α) (hd : dvs ≠ []) (hrel : ∀ {zs : List V} {ws : List Value}, Vals zs ws → Vals (g zs) (g ws))
    (h : ∀ (T : Addr) (kV dc pm : Value) (an : Option Addr) (cv ct : Value) (its ws : List Value), its.length = dvs.length → ws.length = ks.length →
      ∃ kk, bindArgs (PySem.W.fnOf x qu (defArgs st) (defBody st) (defScope st) (.ref T) kV dc pm an cv ct) ⟨[], ks.zip ws⟩ = seqItems? (.ref T) >>= kk ∧ kk (some its.toArray) = pure (ps.zip (g ws))) :
    KBn K fd ps 0 ks (fun _ ws => g ws) (fun _ zs => g zs) := by
  obtain ⟨oc, od, dV, kV, dc, pm, an, cv, ct, sl, rfl, lk, hcd, hD, hK⟩ := F.ex
  rcases hD with ⟨e, _⟩ | ⟨_, T, o, its, m, rfl, lT, oT, rT⟩
  · exact absurd e hd
  · refine ⟨fun s us ws X l1 l2 => ?_, fun _ r2 => hrel r2⟩
    obtain rfl : us = [] := List.length_eq_zero_iff.mp l1
    obtain ⟨kk, e1, e2⟩ := h T kV dc pm an cv ct its ws rT.length.symm l2
    refine BindsTo.of_looks fun M => ?_
    rw [e1]
    exact looks_items X lT oT (.of_pure e2)
end
section
variable {X : Cx} {k j : Nat} {f : Addr} {fd : FuncData} {ps ks : List Str} {sp : Sp} {x : Str} {p pos : Pos} {kws : List Keyword} {tk : TA} {g : List Value → List Value → List Value} {gV : List V → List V → List V}
/-- f(k = v, ..) without a positional argument -/
theorem pe_kw0 (F : FnOk X.prog X.w X.K X.mg X.base CX0 k f fd ps sp) (rm : Room j X.A) (hj : k ≤ j) (hg : Gl X x) (hm : X.mg x = some (.ref f)) (hk : PySem.W.keepIn X.K (.ref f) = true) (hb : KBn X.K fd ps 0 ks g gV) (hkw : PK X kws tk)
    (hall : (backToKw pos (keywordEach kws X.env)).all (·.1.isSome) = true := by rfl) (hks : (backToKw pos (keywordEach kws X.env)).filterMap (·.1) = ks := by rfl) (hdb : (x == ("__debug__" : Str)) = false := by decide)
    (hpl : ((backTo pos (starEach [] X.env)).any (·.1) || (backToKw pos (keywordEach kws X.env)).any (·.1.isNone)) = false := by rfl) :
    PE X (.Call (.Name x p) [] kws pos) (tCallN 0 ks.length sp gV E0 tNil tk) := by
  refine ⟨fun pins s σ H Q I h => wpAny_Call_Name_kw (ld_glob I hg hm ?_ hdb)⟩
  refine PySem.W.callWith_KW0 (h₀ := X.base) I.ok.mod.kin hk hall (thn (hkw.run pos pins s σ H _ I h) fun ws s2 hh => ?_) hpl
  obtain ⟨zs, H2, I2, rz, l1, l2, q2⟩ := hh
  refine ⟨I2.kIn, ?_⟩
  rw [hks]
  exact run_fnN (us := []) (vs := []) F (rm.mono hj) hb pass0 I2 .nil rz rfl l2 q2
end
/-! ### heaps -/
theorem SqL.hp {K : PySem.W.Frag} {H : Hp} {a : Addr} {xs : List V} (h : H a = some (.lst xs)) : SqL K H a xs := .inl (.inl h)
theorem SqT.hp {K : PySem.W.Frag} {H : Hp} {a : Addr} {xs : List V} (h : H a = some (.tup xs)) : SqT K H a xs := .inl (.inl h)
/-- all that was tracked, but for what stands at p, is as it was -/
def Kp (p : Addr) (H H' : Hp) : Prop := ∀ b o, b ≠ p → H b = some o → H' b = some o
theorem Kp.refl {p : Addr} {H : Hp} : Kp p H H := fun _ _ _ h => h
theorem Kp.trans {p : Addr} {H H1 H2 : Hp} (a : Kp p H H1) (b : Kp p H1 H2) : Kp p H H2 := fun c o n h => b c o n (a c o n h)
theorem Kp.same {p : Addr} {H H' : Hp} (a : Same H H') : Kp p H H' := fun c o _ h => a c o h
theorem Kp.new {p q : Addr} {H : Hp} {o : HO} (h : H q = none) : Kp p H (upd H q o) := fun b u _ e => by rw [upd_ne (ne_of_none e h)]; exact e
theorem Kp.at_ {p : Addr} {H : Hp} {o : HO} : Kp p H (upd H p o) := fun b u n e => by rw [upd_ne n]; exact e
theorem Same.new {q : Addr} {H : Hp} {o : HO} (h : H q = none) : Same H (upd H q o) := fun b u e => by rw [upd_ne (ne_of_none e h)]; exact e
theorem Same.free' {H H' : Hp} (s : Same H H') {l : Addr} (h : H' l = none) : H l = none := Same.free s h
theorem sameT {K : PySem.W.Frag} {H H' : Hp} {a : Addr} {xs : List V} (e : Same H H') (h : SqT K H a xs) : SqT K H' a xs := by
  rcases h with (h | ⟨o, h⟩) | h
  · exact .inl (.inl (e _ _ h))
  · exact .inl (.inr ⟨o, e _ _ h⟩)
  · exact .inr h
theorem sameK {K : PySem.W.Frag} {H H' : Hp} {a : Addr} {xs : List V} (e : Same H H') : SqK K H H' a xs := ⟨e.seq, sameT e⟩
theorem sameQ {K : PySem.W.Frag} {H H' : Hp} {a : Addr} {xs : List V} (e : Same H H') (h : Sq K H a xs) : Sq K H' a xs := h.imp e.seq (sameT e)
theorem kpL {K : PySem.W.Frag} {p : Addr} {H H' : Hp} {a : Addr} {xs : List V} (e : Kp p H H') (n : a ≠ p) (h : SqL K H a xs) : SqL K H' a xs := by
  rcases h with (h | ⟨o, h⟩) | h
  · exact .inl (.inl (e _ _ n h))
  · exact .inl (.inr ⟨o, e _ _ n h⟩)
  · exact .inr h
mutual
theorem sameD {K : PySem.W.Frag} {H H' : Hp} (e : Same H H') : ∀ (d : PyData) {v : V}, Dp K H v d → Dp K H' v d
  | .none, _, h => by cases h; exact .non
  | .bool b, _, h => by cases h; exact .bl b
  | .int i, _, h => by cases h; exact .int i
  | .str x, _, h => by cases h; exact .str x
  | .list ds, _, h => by
    cases h with
    | lst q r => exact .lst (e.seq q) (sameDs e ds r)
  | .tuple ds, _, h => by
    cases h with
    | tup q r => exact .tup (sameT e q) (sameDs e ds r)
  | .dict _, _, h => by cases h
theorem sameDs {K : PySem.W.Frag} {H H' : Hp} (e : Same H H') : ∀ (ds : List PyData) {vs : List V}, DpAll K H vs ds → DpAll K H' vs ds
  | [], _, h => by cases h; exact .nil
  | d :: ds, _, h => by
    cases h with
    | cons a b => exact .cons (sameD e d a) (sameDs e ds b)
end
end Spk

namespace Spk
open PySem PySem.Spec PyProof.Rows L2
section
variable {X : Cx} {e : Expr} {te : TE} {p2 pos q1 q2 : Pos} {j : Nat}
/-- xs[::-1] of a list: a new list -/
theorem pe_rev (he : PE X e te) : PE X (.Subscript e (.Slice none none (some (.UnaryOp .USub (.Constant (.int 1) j q1) q2)) p2) pos)
    (fun σ H Q => te σ H fun x H1 => ∃ a xs, x = .ref a ∧ SqL X.K H1 a xs ∧ ∀ p, H1 p = none → Q (.ref p) (upd H1 p (.lst xs.reverse))) := by
  refine ⟨fun pins s σ H Q I h => ?_⟩
  refine Subscript_ (thn (he.run pins s σ H _ I h) fun v s1 ⟨x, H1, I1, r1, q1'⟩ => ?_)
  refine wpAny_Slice ?_
  rw [evalPart_none]
  refine wpAny_pure (wpAny_pure ?_)
  have hk : PO X (some (.UnaryOp .USub (.Constant (.int 1) j q1) q2)) _ := po_some (pe_un un_neg pe_int)
  refine thn (hk.run pins s1 σ H1 (fun k H2 => k = some (-1) ∧ ∃ a xs, x = .ref a ∧ SqL X.K H2 a xs ∧ ∀ p, H2 p = none → Q (.ref p) (upd H2 p (.lst xs.reverse))) I1 ⟨_, rfl, _, rfl, rfl, q1'⟩) fun vk s3 ⟨k, H3, I3, pk, ek, a, xs, ex, hx, q⟩ => ?_
  subst ek
  subst ex
  obtain rfl : v = Value.ref a := r1
  have I4 : Inv X pins σ H3 { s3 with heap := s3.heap.push { cls := .type "slice", data := .fields #[.none, .none, vk] } } := I3.kept (t' := s3.toks) fun b ob q => Heap.get?_push_of_some _ q
  show wpAny (model X.prog X.w) X.A (subscriptTail e (.Slice none none (some (.UnaryOp .USub (.Constant (.int 1) j q1) q2)) p2) (.ref a) (.ref s3.heap.objs.size)) (EP X pins σ Q) X.xe { s3 with heap := s3.heap.push { cls := .type "slice", data := .fields #[.none, .none, vk] } }
  obtain ⟨its, r, ht, hz⟩ := I4.list hx
  have hlen := r.length
  refine tail_any (ops := [.ref a, .ref s3.heap.objs.size]) ht.isList.typeIs slot_list_getitem.lookup ?_ (by with_unfolding_all rfl)
  refine wpAny_getItem_list_slice ht.isList (Heap.IsSliceOf.new ..) .none .none pk (by decide) ?_ (by rw [List.size_toArray] <;> omega)
  rw [PySem.W.krv_pick]
  refine ⟨.ref _, _, I4.laid (t' := s3.toks) (o := .lst xs.reverse) (fun b ob q => Heap.get?_push_of_some _ q) (Nat.le_refl _) ?_, rfl, q _ (I4.hok.fresh (Nat.le_refl _))⟩
  refine ⟨by rw [List.length_reverse]; exact hz, its.reverse, 0, ?_, ?_⟩
  · have : ∀ {zs : List V} {ws : List Value} {as : List V} {bs : List Value}, Vals zs ws → Vals as bs → Vals (zs.reverseAux as) (ws.reverseAux bs) := by
      intro zs
      induction zs with
      | nil => intro ws as bs h k; cases h; exact k
      | cons z zs ih =>
        intro ws as bs h k
        cases h with
        | @cons _ u _ us a b =>
          show Vals (zs.reverseAux (z :: as)) (us.reverseAux (u :: bs))
          exact ih b (.cons a k)
    exact this r .nil
  · exact Heap.get?_push_size _ rfl
end
end Spk

namespace Spk
open PySem PySem.Spec PyProof.Rows L2
/-! ### any objects, as data -/
def isNum : PyData → Bool
  | .int _ => true
  | _ => false
def intish : PyData → Bool
  | .int _ => true
  | .bool _ => true
  | _ => false
def boolish : PyData → Bool
  | .bool _ => true
  | _ => false
def tupish : PyData → Bool
  | .tuple _ => true
  | _ => false
def tyN : PyData → String
  | .none => "NoneType"
  | .bool _ => "bool"
  | .int _ => "int"
  | .str _ => "str"
  | .list _ => "list"
  | .tuple _ => "tuple"
  | .dict _ => "dict"
def edgeI (i : Int) : Bool := (decide (-1000000000000000000000000000000 ≤ i) && decide (i ≤ 1000000000000000000000000000000)) || (decide (i = -10000000000000000000000000000000) || decide (i = 10000000000000000000000000000000))
def isEdge : PyData → Bool
  | .int i => edgeI i
  | _ => false
def isPair : PyData → Bool
  | .tuple [a, b] => isEdge a && isEdge b
  | _ => false
def strP (p : Pr) : Bool := edgeI p.1 && edgeI p.2 && (decide (p.1 ≤ p.2) && (decide (p.1 < 10000000000000000000000000000000) && decide (-10000000000000000000000000000000 < p.2)))
/-- the data of a pair -/
def prD (p : Pr) : PyData := .tuple [.int p.1, .int p.2]
def isStr : PyData → Bool
  | .tuple [.int a, .int b] => strP (a, b)
  | _ => false
section
variable {K : PySem.W.Frag} {H : Hp} {v : V} {d : PyData}
theorem dpTy (h : Dp K H v d) : TyX K H v (.type (tyN d)) := by
  cases h with
  | non => exact .base .non
  | bl b => exact .base (.bl b)
  | int i => exact .base (.int i)
  | str x => exact .base (.str x)
  | lst q r =>
    rcases q with (q | ⟨o, q⟩) | ⟨o, its, n, q, c, _⟩
    · exact .base (.lst q)
    · exact .base (.frz q)
    · exact .kList q c
  | tup q r =>
    rcases q with (q | ⟨o, q⟩) | ⟨o, its, n, q, c, _⟩
    · exact .base (.tup q)
    · exact .fTuple q
    · exact .kTuple q c
theorem kitInt (d : PyData) : kitB (tyN d) "int" = some (intish d) := by cases d <;> simp only [tyN, intish] <;> decide +kernel
theorem kitBool (d : PyData) : kitB (tyN d) "bool" = some (boolish d) := by cases d <;> simp only [tyN, boolish] <;> decide +kernel
theorem kitTup (d : PyData) : kitB (tyN d) "tuple" = some (tupish d) := by cases d <;> simp only [tyN, tupish] <;> decide +kernel
theorem isNum_eq (d : PyData) : isNum d = (intish d && !boolish d) := by cases d <;> rfl
end
theorem inV2 (i a b : Int) : inV (.int i) [.int a, .int b] = (decide (i = a) || decide (i = b)) := by
  have e : ∀ a : Int, eqV (.int a) (.int i) = decide (i = a) := fun a => by
    show (a == i) = decide (i = a)
    by_cases h : i = a
    · rw [h, decide_eq_true rfl]; exact beq_self_eq_true a
    · rw [decide_eq_false h]; exact beq_eq_false_iff_ne.mpr (Ne.symm h)
  show (eqV (.int a) (.int i) || (eqV (.int b) (.int i) || false)) = _
  rw [e, e, Bool.or_false]
theorem dpAll_len {K : PySem.W.Frag} {H : Hp} : ∀ {vs : List V} {ds : List PyData}, DpAll K H vs ds → vs.length = ds.length
  | _, _, .nil => rfl
  | _, _, .cons _ t => congrArg Nat.succ (dpAll_len t)
theorem tup_of {K : PySem.W.Frag} {H : Hp} {v : V} {d : PyData} (h : Dp K H v d) (c : tupish d = true) : ∃ a xs ds, v = .ref a ∧ d = .tuple ds ∧ SqT K H a xs ∧ DpAll K H xs ds := by
  cases h with
  | tup sq da => exact ⟨_, _, _, rfl, rfl, sq, da⟩
  | _ => cases c
theorem int_of {K : PySem.W.Frag} {H : Hp} {v : V} {d : PyData} (h : Dp K H v d) (c : isNum d = true) : ∃ i, v = .int i ∧ d = .int i := by
  cases h with
  | int i => exact ⟨i, rfl, rfl⟩
  | _ => cases c
theorem dpAll2 {K : PySem.W.Frag} {H : Hp} {xs : List V} {ds : List PyData} (h : DpAll K H xs ds) (l : xs.length = 2) : ∃ x y d1 d2, xs = [x, y] ∧ ds = [d1, d2] ∧ Dp K H x d1 ∧ Dp K H y d2 := by
  cases h with
  | nil => simp at l
  | cons h1 h =>
    cases h with
    | nil => simp at l
    | cons h2 h =>
      cases h with
      | nil => exact ⟨_, _, _, _, rfl, rfl, h1, h2⟩
      | cons _ _ => simp at l
theorem dpPr {K : PySem.W.Frag} {H : Hp} {v : V} {a b : Int} (h : Dp K H v (.tuple [.int a, .int b])) : ∃ p, v = .ref p ∧ SqT K H p [.int a, .int b] := by
  cases h with
  | tup sq da =>
    cases da with
    | cons h1 h =>
      cases h with
      | cons h2 h =>
        cases h; cases h1; cases h2
        exact ⟨_, rfl, sq⟩
theorem isPair_len {ds : List PyData} (h : ds.length ≠ 2) : isPair (.tuple ds) = false := by
  unfold isPair
  split
  · rename_i e
    cases e
    exact absurd rfl h
  · rfl
theorem isPair_not {d : PyData} (h : ¬ tupish d = true) : isPair d = false := by
  cases d with
  | tuple _ => exact absurd rfl h
  | _ => rfl
theorem isEdge_not {d : PyData} (h : ¬ isNum d = true) : isEdge d = false := by
  cases d with
  | int _ => exact absurd rfl h
  | _ => rfl
theorem edge_of {d : PyData} (h : isEdge d = true) : ∃ a, d = .int a ∧ edgeI a = true := by
  unfold isEdge at h
  split at h
  · exact ⟨_, rfl, h⟩
  · cases h
theorem pair_of {d : PyData} (h : isPair d = true) : ∃ a b, d = .tuple [.int a, .int b] ∧ edgeI a = true ∧ edgeI b = true := by
  unfold isPair at h
  split at h
  · rw [Bool.and_eq_true] at h
    obtain ⟨a, rfl, ha⟩ := edge_of h.1
    obtain ⟨b, rfl, hb⟩ := edge_of h.2
    exact ⟨a, b, rfl, ha, hb⟩
  · cases h
theorem isStr_not {d : PyData} (h : ¬ isPair d = true) : isStr d = false := by
  unfold isStr
  split
  · rename_i a b
    have : (edgeI a && edgeI b) = false := by
      rw [← Bool.not_eq_true]
      exact h
    unfold strP
    rw [this, Bool.false_and]
  · rfl
theorem str_of {d : PyData} (h : isStr d = true) : ∃ a b, d = prD (a, b) ∧ strP (a, b) = true := by
  unfold isStr at h
  split at h
  · exact ⟨_, _, rfl, h⟩
  · cases h
/-- refs to tuples of two ints -/
def Pd (H : Hp) : List Addr → List Pr → Prop
  | [], [] => True
  | t :: ts, p :: ps => H t = some (.tup [.int p.1, .int p.2]) ∧ Pd H ts ps
  | _, _ => False
theorem Pd.len {H : Hp} : ∀ {ts : List Addr} {ps : List Pr}, Pd H ts ps → ts.length = ps.length
  | [], [], _ => rfl
  | t :: ts, p :: ps, h => by simp [Pd.len h.2]
  | [], _ :: _, h => h.elim
  | _ :: _, [], h => h.elim
theorem Pd.same {H H' : Hp} (e : Same H H') : ∀ {ts : List Addr} {ps : List Pr}, Pd H ts ps → Pd H' ts ps
  | [], [], _ => trivial
  | t :: ts, p :: ps, h => ⟨e _ _ h.1, Pd.same e h.2⟩
  | [], _ :: _, h => h.elim
  | _ :: _, [], h => h.elim
/-- what changes is no tuple -/
theorem Pd.kp {q : Addr} {H H' : Hp} (e : Kp q H H') (hq : ∀ xs, H q ≠ some (.tup xs)) : ∀ {ts : List Addr} {ps : List Pr}, Pd H ts ps → Pd H' ts ps
  | [], [], _ => trivial
  | t :: ts, p :: ps, h => ⟨e _ _ (fun z => hq _ (z ▸ h.1)) h.1, Pd.kp e hq h.2⟩
  | [], _ :: _, h => h.elim
  | _ :: _, [], h => h.elim
theorem Pd.get {H : Hp} : ∀ {ts : List Addr} {ps : List Pr}, Pd H ts ps → ∀ {i : Nat} {t : Addr}, ts[i]? = some t → ∃ p, ps[i]? = some p ∧ H t = some (.tup [.int p.1, .int p.2])
  | [], [], _, i, t, h => by simp at h
  | t :: ts, p :: ps, h, 0, t', e => by
    simp at e; subst e
    exact ⟨p, rfl, h.1⟩
  | t :: ts, p :: ps, h, i + 1, t', e => by
    obtain ⟨q, h1, h2⟩ := Pd.get h.2 (i := i) (t := t') (by simpa using e)
    exact ⟨q, by simpa using h1, h2⟩
  | [], _ :: _, h, _, _, _ => h.elim
  | _ :: _, [], h, _, _, _ => h.elim
theorem Pd.app {H : Hp} : ∀ {ts : List Addr} {ps : List Pr} {us : List Addr} {qs : List Pr}, Pd H ts ps → Pd H us qs → Pd H (ts ++ us) (ps ++ qs)
  | [], [], _, _, _, h => h
  | t :: ts, p :: ps, _, _, h, k => ⟨h.1, Pd.app h.2 k⟩
  | [], _ :: _, _, _, h, _ => h.elim
  | _ :: _, [], _, _, h, _ => h.elim
theorem Pd.set {H : Hp} : ∀ {ts : List Addr} {ps : List Pr} (i : Nat) {t : Addr} {p : Pr}, Pd H ts ps → H t = some (.tup [.int p.1, .int p.2]) → Pd H (ts.set i t) (ps.set i p)
  | [], [], _, _, _, h, _ => h
  | t :: ts, p :: ps, 0, _, _, h, k => ⟨k, h.2⟩
  | t :: ts, p :: ps, i + 1, _, _, h, k => ⟨h.1, Pd.set i h.2 k⟩
  | [], _ :: _, _, _, _, h, _ => h.elim
  | _ :: _, [], _, _, _, h, _ => h.elim
theorem Pd.dp {K : PySem.W.Frag} {H : Hp} : ∀ {ts : List Addr} {ps : List Pr}, Pd H ts ps → DpAll K H (ts.map V.ref) (ps.map prD)
  | [], [], _ => .nil
  | t :: ts, p :: ps, h => .cons (.tup (SqT.hp h.1) (.cons (.int _) (.cons (.int _) .nil))) (Pd.dp h.2)
  | [], _ :: _, h => h.elim
  | _ :: _, [], h => h.elim
/-- the draws of a law -/
def BagAt (H : Hp) (p : Addr) (c : Int) : Prop := ∃ b0 b1 b2 b3 : Int, H p = some (.lst [.int b0, .int b1, .int b2, .int b3]) ∧ 0 ≤ b0 ∧ 0 ≤ b1 ∧ b1 < 2305843009213693951 ∧ 0 ≤ b2 ∧ b2 ≤ 1073741824 ∧ 0 ≤ b3 ∧ b3 ≤ c
theorem BagAt.mono {H : Hp} {p : Addr} {c d : Int} (h : BagAt H p c) (e : c ≤ d) : BagAt H p d := by
  obtain ⟨b0, b1, b2, b3, h0, h1, h2, h3, h4, h5, h6, h7⟩ := h
  exact ⟨b0, b1, b2, b3, h0, h1, h2, h3, h4, h5, h6, by omega⟩
theorem BagAt.same {H H' : Hp} {p : Addr} {c : Int} (h : BagAt H p c) (e : Same H H') : BagAt H' p c := by
  obtain ⟨b0, b1, b2, b3, h0, h1⟩ := h
  exact ⟨b0, b1, b2, b3, e _ _ h0, h1⟩
theorem BagAt.lst {H : Hp} {p : Addr} {c : Int} (h : BagAt H p c) : ∃ xs, H p = some (.lst xs) := by
  obtain ⟨b0, b1, b2, b3, h0, h1⟩ := h
  exact ⟨_, h0⟩
/-- all but the bag at p is as it was, what was free too -/
def But (p : Addr) (H H' : Hp) : Prop := ∀ b, b ≠ p → H' b = H b
theorem But.kp {p : Addr} {H H' : Hp} (h : But p H H') : Kp p H H' := fun b o n e => (h b n).trans e
theorem But.trans {p : Addr} {H H1 H2 : Hp} (a : But p H H1) (b : But p H1 H2) : But p H H2 := fun c n => (b c n).trans (a c n)
theorem But.refl {p : Addr} {H : Hp} : But p H H := fun _ _ => rfl
theorem lgDiv {i m : Int} (h0 : 0 < m) (h : m ≤ 1000000000000000000000000000000000000000000000) : CDivW i m :=
  wide_div (b := 200) h0 (by omega) (by decide) (by decide)
theorem vals_rev2 {zs : List V} {ws : List Value} (r : Vals zs ws) : Vals zs.reverse ws.reverse := by
  have : ∀ {zs : List V} {ws : List Value} {as : List V} {bs : List Value}, Vals zs ws → Vals as bs → Vals (zs.reverseAux as) (ws.reverseAux bs) := by
    intro zs
    induction zs with
    | nil => intro ws as bs h k; cases h; exact k
    | cons z zs ih =>
      intro ws as bs h k
      cases h with
      | @cons _ u _ us a b =>
        show Vals (zs.reverseAux (z :: as)) (us.reverseAux (u :: bs))
        exact ih b (.cons a k)
  exact this r .nil
end Spk
namespace Spk
open PySem PySem.Spec PyProof.Rows L2
theorem eqvAllPs : ∀ ps qs : List Pr, PyData.eqvAll (ps.map prD) (qs.map prD) = decide (ps = qs)
  | [], [] => rfl
  | p :: ps, [] => rfl
  | [], q :: qs => rfl
  | p :: ps, q :: qs => by
    show (((p.1 == q.1) && ((p.2 == q.2) && true)) && PyData.eqvAll (ps.map prD) (qs.map prD)) = decide (p :: ps = q :: qs)
    rw [eqvAllPs ps qs]
    obtain ⟨a, b⟩ := p
    obtain ⟨c, d⟩ := q
    by_cases h1 : a = c <;> by_cases h2 : b = d <;> by_cases h3 : ps = qs <;> simp [h1, h2, h3]
theorem eqvPs (ps qs : List Pr) : PyData.eqv (.list (ps.map prD)) (.list (qs.map prD)) = decide (ps = qs) := eqvAllPs ps qs
theorem canLayPs : ∀ ps : List Pr, PyData.canLayAll0 (ps.map prD) = true
  | [] => rfl
  | p :: ps => by
    show (PyData.canLay0 (prD p) && PyData.canLayAll0 (ps.map prD)) = true
    rw [canLayPs ps]; rfl
theorem depthPs : ∀ ps : List Pr, PyData.depthAll (ps.map prD) ≤ 1
  | [] => Nat.zero_le _
  | p :: ps => by
    show max (PyData.depth (prD p)) (PyData.depthAll (ps.map prD)) ≤ 1
    exact Nat.max_le.mpr ⟨by show PyData.depth (.tuple [.int p.1, .int p.2]) ≤ 1; simp [PyData.depth, PyData.depthAll], depthPs ps⟩
theorem shapedPs (ps : List Pr) : SeqAt.shaped (.list (ps.map prD)) = true := by
  have h1 : PyData.canLay0 (.list (ps.map prD)) = true := canLayPs ps
  have h2 : PyData.depth (.list (ps.map prD)) ≤ 64 := by
    have := depthPs ps
    simp only [PyData.depth]; omega
  unfold SeqAt.shaped
  rw [h1, decide_eq_true h2]; rfl
theorem dpAll_get {K : PySem.W.Frag} {H : Hp} : ∀ {xs : List V} {ds : List PyData}, DpAll K H xs ds → ∀ {i : Nat} {x : V}, xs[i]? = some x → ∃ d, d ∈ ds ∧ Dp K H x d
  | _, _, .nil, i, x, h => by simp at h
  | _, _, .cons a t, 0, x, h => by
    simp at h; subst h
    exact ⟨_, List.mem_cons_self, a⟩
  | _, _, .cons a t, i + 1, x, h => by
    obtain ⟨d, h1, h2⟩ := dpAll_get t (i := i) (x := x) (by simpa using h)
    exact ⟨d, List.mem_cons_of_mem _ h1, h2⟩
def endsV (z : Bool) : V := if z then .str "shut" else .str "half"
theorem endsV_shut (z : Bool) : decide (endsV z = .str "shut") = z := by cases z <;> decide +kernel
theorem endsV_half (z : Bool) : decide (endsV z = .str "half") = !z := by cases z <;> decide +kernel
theorem endsV_scal (z : Bool) : scal (endsV z) (.str "shut") = true := by cases z <;> rfl
theorem endsV_scalH (z : Bool) : scal (endsV z) (.str "half") = true := by cases z <;> rfl
theorem strP_le {p : Pr} (h : strP p = true) : p.1 ≤ p.2 := by
  unfold strP at h
  simp only [Bool.and_eq_true, decide_eq_true_eq] at h
  exact h.2.1
theorem map_get {α β : Type} {f : α → β} {l : List α} {i : Nat} {y : β} (h : (l.map f)[i]? = some y) : ∃ x, l[i]? = some x ∧ y = f x := by
  rw [List.getElem?_map] at h
  cases e : l[i]? with
  | none => rw [e] at h; cases h
  | some x => rw [e] at h; exact ⟨x, rfl, (Option.some.inj h).symm⟩
theorem take_more {α : Type} {l : List α} {i : Nat} {x : α} (h : l[i]? = some x) : l.take (i + 1) = l.take i ++ [x] := by
  rw [List.take_add_one, h]; rfl
theorem stepJ_len (l : List Pr) (s : List Pr × Pr) : ((l.foldl stepJ s).1).length ≤ s.1.length + l.length := by
  induction l generalizing s with
  | nil => exact Nat.le_refl _
  | cons p r ih =>
    have h := ih (stepJ s p)
    have : (stepJ s p).1.length ≤ s.1.length + 1 := by unfold stepJ; split <;> simp
    simp only [List.foldl_cons, List.length_cons]; omega
theorem stepJ_len0 (l : List Pr) (p : Pr) : ((l.foldl stepJ ([], p)).1).length ≤ l.length := by
  have := stepJ_len l ([], p)
  simpa using this
end Spk
namespace Spk
open PySem PySem.Spec PyProof.Rows L2
/-- the pair that a ref's tuple holds -/
def kOf (H : Hp) : V → Int × Int
  | .ref t => match H t with
    | some (.tup [.int a, .int b]) => (a, b)
    | _ => (0, 0)
  | _ => (0, 0)
theorem kOf_at {H : Hp} {t : Addr} {p : Pr} (h : H t = some (.tup [.int p.1, .int p.2])) : kOf H (.ref t) = p := by
  show (match H t with | some (.tup [.int a, .int b]) => (a, b) | _ => (0, 0)) = p
  rw [h]
theorem Pd.map {H : Hp} : ∀ {ts : List Addr} {ps : List Pr}, Pd H ts ps → (ts.map V.ref).map (kOf H) = ps
  | [], [], _ => rfl
  | t :: ts, p :: ps, h => by
    show kOf H (.ref t) :: (ts.map V.ref).map (kOf H) = p :: ps
    rw [kOf_at h.1, Pd.map h.2]
  | [], _ :: _, h => h.elim
  | _ :: _, [], h => h.elim
theorem Pd.all {H : Hp} : ∀ {ts : List Addr} {ps : List Pr}, Pd H ts ps → ∀ x ∈ ts.map V.ref, ∃ t, x = V.ref t ∧ H t = some (.tup [.int (kOf H x).1, .int (kOf H x).2])
  | [], [], _, x, hx => by simp at hx
  | t :: ts, p :: ps, h, x, hx => by
    rcases List.mem_cons.mp (show x ∈ V.ref t :: ts.map V.ref from hx) with e | hx
    · exact ⟨t, e, by rw [e, kOf_at h.1]; exact h.1⟩
    · exact Pd.all h.2 x hx
  | [], _ :: _, h, _, _ => h.elim
  | _ :: _, [], h, _, _ => h.elim
theorem refs_of {H : Hp} : ∀ {ys : List V}, (∀ x ∈ ys, ∃ t, x = V.ref t ∧ H t = some (.tup [.int (kOf H x).1, .int (kOf H x).2])) → ∃ us, ys = us.map V.ref ∧ Pd H us (ys.map (kOf H))
  | [], _ => ⟨[], rfl, trivial⟩
  | y :: ys, h => by
    obtain ⟨t, e, ht⟩ := h y (by simp)
    obtain ⟨us, e2, pd⟩ := refs_of (ys := ys) fun x hx => h x (by simp [hx])
    exact ⟨t :: us, by rw [e, e2]; rfl, ht, pd⟩
theorem ltP_ple {k : V → Int × Int} {x y : V} (h : ltP k y x = false) : ple (k x) (k y) := by
  have h2 : ¬ (SrtO.lexB (k y) (k x) = true) := by rw [show SrtO.lexB (k y) (k x) = false from h]; decide
  rw [SrtO.lexB_iff] at h2
  unfold ple
  omega
/-- sorted of refs to pairs -/
theorem sorted_refs {H : Hp} {ts : List Addr} {ps : List Pr} {ys : List V} (pd : Pd H ts ps) (hs : SrtO.Srtd (ltP (kOf H)) ys) (hb : SrtO.Stb (ltP (kOf H)) ys (ts.map V.ref)) :
    ∃ us, ys = us.map V.ref ∧ Pd H us (srt ps) := by
  obtain ⟨us, e, pu⟩ := refs_of (H := H) (ys := ys) fun x hx => pd.all x (hb.perm.mem_iff.mp hx)
  have hp : (ys.map (kOf H)).Perm ps := by
    have := hb.perm.map (kOf H)
    rwa [pd.map] at this
  have hso : (ys.map (kOf H)).Pairwise ple := List.pairwise_map.mpr (hs.imp fun h => ltP_ple h)
  have e2 : ys.map (kOf H) = srt ps := sorted_uniq hso (srt_sorted ps) (hp.trans (srt_perm ps).symm)
  exact ⟨us, e, e2 ▸ pu⟩
end Spk
namespace Spk
open PySem PySem.Spec PyProof.Rows L2
theorem gapd_iff : ∀ {l : List Pr}, gapd l = true ↔ ∀ i p q, l[i]? = some p → l[i + 1]? = some q → p.2 < q.1
  | [] => ⟨fun _ i p q h _ => by simp at h, fun _ => rfl⟩
  | [x] => ⟨fun _ i p q _ h => by simp at h, fun _ => rfl⟩
  | x :: y :: r => by
    have ih := gapd_iff (l := y :: r)
    constructor
    · intro h i p q hp hq
      unfold gapd at h
      rw [Bool.and_eq_true, decide_eq_true_eq] at h
      cases i with
      | zero => simp at hp hq; subst hp hq; exact h.1
      | succ i => exact ih.mp h.2 i p q (by simpa using hp) (by simpa using hq)
    · intro h
      unfold gapd
      rw [Bool.and_eq_true, decide_eq_true_eq]
      exact ⟨h 0 x y rfl rfl, ih.mpr fun i p q hp hq => h (i + 1) p q (by simpa using hp) (by simpa using hq)⟩
/-- what the first i pairs have, if the list is in one form so far -/
def oneTo (z : Bool) (l : List Pr) (i : Nat) : Prop := ∀ j, j < i → ∀ p, l[j]? = some p → emp z p = false ∧ ∀ k q, j = k + 1 → l[k]? = some q → q.2 < p.1
theorem oneTo_all {z : Bool} {l : List Pr} (h : oneTo z l l.length) : oneF z l = true := by
  unfold oneF
  rw [Bool.and_eq_true, List.all_eq_true]
  constructor
  · intro p hp
    obtain ⟨j, hj⟩ := List.mem_iff_getElem?.mp hp
    have hlt : j < l.length := by
      obtain ⟨h1, _⟩ := List.getElem?_eq_some_iff.mp hj
      exact h1
    rw [(h j hlt p hj).1]; rfl
  · refine gapd_iff.mpr fun i p q hp hq => ?_
    have hlt : i + 1 < l.length := by
      obtain ⟨h1, _⟩ := List.getElem?_eq_some_iff.mp hq
      exact h1
    exact (h (i + 1) hlt q hq).2 i p rfl hp
theorem oneF_empty {z : Bool} {l : List Pr} {i : Nat} {p : Pr} (hp : l[i]? = some p) (e : emp z p = true) : oneF z l = false := by
  rw [← Bool.not_eq_true]
  intro h
  unfold oneF at h
  rw [Bool.and_eq_true, List.all_eq_true] at h
  have := h.1 p (List.mem_of_getElem? hp)
  rw [e] at this
  cases this
theorem oneF_gap {z : Bool} {l : List Pr} {i : Nat} {p q : Pr} (hp : l[i]? = some p) (hq : l[i + 1]? = some q) (e : ¬ p.2 < q.1) : oneF z l = false := by
  rw [← Bool.not_eq_true]
  intro h
  unfold oneF at h
  rw [Bool.and_eq_true] at h
  exact e (gapd_iff.mp h.2 i p q hp hq)
theorem oneTo_more {z : Bool} {l : List Pr} {i : Nat} {p : Pr} (h : oneTo z l i) (hp : l[i]? = some p) (e : emp z p = false) (g : ∀ k q, i = k + 1 → l[k]? = some q → q.2 < p.1) : oneTo z l (i + 1) := by
  intro j hj x hx
  by_cases c : j < i
  · exact h j c x hx
  · obtain rfl : j = i := by omega
    obtain rfl : p = x := Option.some.inj (hp.symm.trans hx)
    exact ⟨e, g⟩
theorem emp_half {p : Pr} (h : p.1 ≤ p.2) : emp false p = decide (p.1 = p.2) := by
  show decide (p.2 ≤ p.1) = decide (p.1 = p.2)
  rw [decide_eq_decide]; omega
theorem emp_shut {p : Pr} (h : p.1 ≤ p.2) : emp true p = false := by
  show decide (p.2 < p.1) = false
  rw [decide_eq_false_iff_not]; omega
end Spk
namespace Spk
open PySem PySem.Spec PyProof.Rows L2
theorem mulB {x f F : Int} (h1 : -1 ≤ x) (h2 : x ≤ 6) (f0 : 0 ≤ f) (fF : f ≤ F) : -F ≤ x * f ∧ x * f ≤ 6 * F := by
  have : x = -1 ∨ x = 0 ∨ x = 1 ∨ x = 2 ∨ x = 3 ∨ x = 4 ∨ x = 5 ∨ x = 6 := by omega
  rcases this with h | h | h | h | h | h | h | h <;> subst h <;> omega
theorem rowStep {f at' X Y : Int} {i : Nat} (f1 : 1 ≤ f) (f2 : f ≤ 200000000000000000001) (hi : i < 21) (x1 : -1 ≤ X) (x2 : X ≤ 3) (y1 : 0 ≤ Y) (y2 : Y ≤ 3)
    (a1 : -(200000000000000000001 * (20 + 6 * (i : Int))) ≤ at') (a2 : at' ≤ 200000000000000000001 * (20 + 6 * (i : Int))) :
    (-1000000000000000000000000000000 ≤ at' + X * f ∧ at' + X * f ≤ at' + (X + Y) * f ∧ at' + (X + Y) * f ≤ 1000000000000000000000000000000) ∧
      (-(200000000000000000001 * (20 + 6 * (((i + 1 : Nat) : Nat) : Int))) ≤ at' + (X + Y) * f ∧ at' + (X + Y) * f ≤ 200000000000000000001 * (20 + 6 * (((i + 1 : Nat) : Nat) : Int))) := by
  obtain ⟨p1, p2⟩ := mulB (x := X) (f := f) (F := 200000000000000000001) (by omega) (by omega) (by omega) f2
  obtain ⟨q1, q2⟩ := mulB (x := X + Y) (f := f) (F := 200000000000000000001) (by omega) (by omega) (by omega) f2
  have e : (X + Y) * f = X * f + Y * f := Int.add_mul X Y f
  have y0 : 0 ≤ Y * f := Int.mul_nonneg y1 (by omega)
  generalize (X + Y) * f = w at *
  generalize X * f = u at *
  generalize Y * f = v at *
  omega
theorem strP_of {b e : Int} (h1 : -1000000000000000000000000000000 ≤ b) (h2 : b ≤ e) (h3 : e ≤ 1000000000000000000000000000000) : strP (b, e) = true := by
  unfold strP edgeI
  simp only [Bool.and_eq_true, Bool.or_eq_true, decide_eq_true_eq]
  omega
theorem strP_first {p : Pr} (h : strP p = true) : strP (-10000000000000000000000000000000, p.2) = true := by
  obtain ⟨a, b⟩ := p
  unfold strP edgeI at h ⊢
  simp only [Bool.and_eq_true, Bool.or_eq_true, decide_eq_true_eq] at h ⊢
  simp only [Int.reduceNeg, Int.reduceLE, Int.reduceLT, Int.reduceEq, true_and, and_true, true_or, or_true, false_or, or_false, false_and, and_false]
  omega
theorem strP_last {p : Pr} (h : strP p = true) : strP (p.1, 10000000000000000000000000000000) = true := by
  obtain ⟨a, b⟩ := p
  unfold strP edgeI at h ⊢
  simp only [Bool.and_eq_true, Bool.or_eq_true, decide_eq_true_eq] at h ⊢
  simp only [Int.reduceNeg, Int.reduceLE, Int.reduceLT, Int.reduceEq, true_and, and_true, true_or, or_true, false_or, or_false, false_and, and_false]
  omega
theorem set_good {l : List Pr} {i : Nat} {p : Pr} (h : ∀ x ∈ l, strP x = true) (hp : strP p = true) : ∀ x ∈ l.set i p, strP x = true := fun x hx => by
  rcases List.mem_or_eq_of_mem_set hx with h1 | h1
  · exact h x h1
  · exact h1 ▸ hp
theorem shapedNil : SeqAt.shaped (.list []) = true := shapedPs []
theorem eqvNil (ps : List Pr) : PyData.eqv (.list (ps.map prD)) (.list []) = decide (ps = []) := eqvPs ps []
end Spk
namespace Spk
open PySem PySem.Spec PyProof.Rows L2
theorem ixN_nat {n j : Nat} {i : Int} (e : i = (j : Int)) (h : j < n) : ixN n i = some j := by
  subst e
  unfold ixN
  rw [if_pos (Int.natCast_nonneg j), if_pos (Int.ofNat_lt.mpr h)]
  simp
theorem ixN_last {n : Nat} (h : 0 < n) : ixN n (-1) = some (n - 1) := by
  unfold ixN
  rw [if_neg (by decide), if_pos (by omega)]
  congr 1
  omega
theorem at_last {ts : List Addr} {t : Addr} (h : ts[ts.length - 1]? = some t) : atI (ts.map V.ref) (-1) = some (.ref t) := by
  have hl : ts.length - 1 < ts.length := (List.getElem?_eq_some_iff.mp h).1
  unfold atI
  rw [ixN_last (by rw [List.length_map]; omega)]
  show (ts.map V.ref)[(ts.map V.ref).length - 1]? = some (.ref t)
  rw [List.length_map, List.getElem?_map, h]; rfl
theorem at_ref {ts : List Addr} {t : Addr} {j : Nat} {i : Int} (e : i = (j : Int)) (h : ts[j]? = some t) : atI (ts.map V.ref) i = some (.ref t) :=
  at_of e (by rw [List.getElem?_map, h]; rfl)
theorem refs_set {ts : List Addr} {j : Nat} {t : Addr} : (ts.map V.ref).set j (.ref t) = (ts.set j t).map V.ref := by
  rw [List.map_set]
end Spk
namespace Spk
open PySem PySem.Spec PyProof.Rows L2
theorem reprB (b : Bool) : (PyData.bool b).showable = true ∧ (PyData.bool b).hasDict = false ∧ (PyData.bool b).depth ≤ 64 ∧ (PyData.bool b).shown.length ≤ sizeLine := by
  cases b <;> decide +kernel
theorem reprBB (b : Bool) : (PyData.list [.bool b, .bool b]).showable = true ∧ (PyData.list [.bool b, .bool b]).hasDict = false ∧ (PyData.list [.bool b, .bool b]).depth ≤ 64 ∧ (PyData.list [.bool b, .bool b]).shown.length ≤ sizeLine := by
  cases b <;> decide +kernel
theorem mode_of {j : Nat} {x : V} (h : ([.str "half", .str "shut"] : List V)[j]? = some x) : ∃ z, x = endsV z := by
  match j, h with
  | 0, h => exact ⟨false, (Option.some.inj h).symm⟩
  | 1, h => exact ⟨true, (Option.some.inj h).symm⟩
theorem pd_nil {H : Hp} {us : List Addr} (h : Pd H us []) : us = [] := by
  cases us with
  | nil => rfl
  | cons _ _ => exact h.elim
/-- behind a bag and what is drawn with it all that was tracked ahead is as it was -/
theorem bag_same {p : Addr} {H H1 H2 : Hp} (np : H p = none) (a : But p H H1) (b : Kp p H1 H2) : Same H H2 := fun c o h =>
  b c o (ne_of_none h np) ((a c (ne_of_none h np)).trans h)
theorem union_eqv {z : Bool} {ps : List Pr} (h : ∀ p ∈ ps, strP p = true) : PyData.eqv (.list ((unionM z ps).map prD)) (.list (ps.map prD)) = oneF z ps := by
  rw [eqvPs, Bool.eq_iff_iff, decide_eq_true_eq]
  exact union_fix fun p hp => strP_le (h p hp)
end Spk
namespace Spk
open PySem PySem.Spec PyProof.Rows L2
theorem cut_to {us : List Addr} {i : Int} {n : Nat} (e : i = (n : Int)) : cutV (us.map V.ref) none (some i) = (us.take n).map V.ref := by
  subst e
  unfold cutV
  rw [HT.sIx_none, HT.sIx_nat, List.drop_zero, Nat.sub_zero, List.map_take, List.length_map]
  by_cases h : n ≤ us.length
  · rw [Nat.min_eq_left h]
  · rw [Nat.min_eq_right (by omega), List.take_of_length_le (by rw [List.length_map]; omega), List.take_of_length_le (by rw [List.length_map]; omega)]
theorem cut_from {us : List Addr} {i : Int} {n : Nat} (e : i = (n : Int)) : cutV (us.map V.ref) (some i) none = (us.drop n).map V.ref := by
  subst e
  unfold cutV
  rw [HT.sIx_none, HT.sIx_nat, List.map_drop, List.length_map]
  by_cases h : n ≤ us.length
  · rw [Nat.min_eq_left h]
    exact List.take_of_length_le (by rw [List.length_drop, List.length_map]; omega)
  · rw [Nat.min_eq_right (by omega), List.drop_of_length_le (by rw [List.length_map]; omega), List.drop_of_length_le (by rw [List.length_map]; omega), List.take_nil]
theorem Pd.take {H : Hp} : ∀ {ts : List Addr} {ps : List Pr} (n : Nat), Pd H ts ps → Pd H (ts.take n) (ps.take n)
  | [], [], _, _ => by simp [Pd]
  | t :: ts, p :: ps, 0, _ => by simp [Pd]
  | t :: ts, p :: ps, n + 1, h => ⟨h.1, Pd.take n h.2⟩
  | [], _ :: _, _, h => h.elim
  | _ :: _, [], _, h => h.elim
theorem Pd.drop {H : Hp} : ∀ {ts : List Addr} {ps : List Pr} (n : Nat), Pd H ts ps → Pd H (ts.drop n) (ps.drop n)
  | [], [], _, _ => by simp [Pd]
  | t :: ts, p :: ps, 0, h => h
  | t :: ts, p :: ps, n + 1, h => Pd.drop n h.2
  | [], _ :: _, _, h => h.elim
  | _ :: _, [], _, h => h.elim
theorem bag_not_refs {H : Hp} {p s : Addr} {c : Int} {ts : List Addr} (bg : BagAt H p c) (h : H s = some (.lst (ts.map V.ref))) : s ≠ p := by
  rintro rfl
  obtain ⟨b0, b1, b2, b3, e, _⟩ := bg
  rw [e] at h
  have h := HO.lst.inj (Option.some.inj h)
  cases ts with
  | nil => cases h
  | cons t ts => exact V.noConfusion (List.cons.inj h).1
theorem bag_not_tup {H : Hp} {p t : Addr} {c : Int} {xs : List V} (bg : BagAt H p c) (h : H t = some (.tup xs)) : t ≠ p := by
  rintro rfl
  obtain ⟨b0, b1, b2, b3, e, _⟩ := bg
  rw [e] at h; cases h
theorem bag_kp {H H' : Hp} {p q : Addr} {c : Int} (bg : BagAt H p c) (k : Kp q H H') (n : p ≠ q) : BagAt H' p c := by
  obtain ⟨b0, b1, b2, b3, e, r⟩ := bg
  exact ⟨b0, b1, b2, b3, k _ _ n e, r⟩
end Spk
namespace Spk
open PySem PySem.Spec PyProof.Rows L2
theorem strP_cutR {b : Pr} {c : Int} (h : strP b = true) (h1 : b.1 ≤ c) (h2 : c ≤ b.2) (h3 : -1000000000000000000000000000000 ≤ c) (h4 : c ≤ 1000000000000000000000000000000) : strP (c, b.2) = true := by
  unfold strP edgeI at *
  simp only [Bool.and_eq_true, Bool.or_eq_true, decide_eq_true_eq] at *
  omega
theorem strP_cutL {b : Pr} {c : Int} (h : strP b = true) (h1 : b.1 ≤ c) (h2 : c ≤ b.2) (h3 : -1000000000000000000000000000000 ≤ c) (h4 : c ≤ 1000000000000000000000000000000) : strP (b.1, c) = true := by
  unfold strP edgeI at *
  simp only [Bool.and_eq_true, Bool.or_eq_true, decide_eq_true_eq] at *
  omega
end Spk
namespace Spk
open PySem PySem.Spec PyProof.Rows L2
theorem strP_ext {c p : Pr} (h : strP c = true) (k : strP p = true) (e : c.2 < p.2) : strP (c.1, p.2) = true := by
  unfold strP edgeI at *
  simp only [Bool.and_eq_true, Bool.or_eq_true, decide_eq_true_eq] at *
  omega
end Spk

namespace Spk
open PySem PySem.Spec PyProof.Rows L2
/-! ### the draws of the later laws -/
def BagN (H : Hp) (p : Addr) : Prop := ∃ b0 b1 : Int, H p = some (.lst [.int b0, .int b1]) ∧ 0 ≤ b0 ∧ 0 ≤ b1 ∧ b1 < 2147483629
theorem BagN.same {H H' : Hp} {p : Addr} (h : BagN H p) (e : Same H H') : BagN H' p := by
  obtain ⟨b0, b1, h0, h1⟩ := h
  exact ⟨b0, b1, e _ _ h0, h1⟩
theorem BagN.kp {H H' : Hp} {p q : Addr} (h : BagN H p) (k : Kp q H H') (n : p ≠ q) : BagN H' p := by
  obtain ⟨b0, b1, h0, h1⟩ := h
  exact ⟨b0, b1, k _ _ n h0, h1⟩
theorem bagN_ne {H : Hp} {p q : Addr} {o : HO} (h : BagN H p) (e : H q = some o) (n : ∀ b0 b1 : Int, o ≠ .lst [.int b0, .int b1]) : q ≠ p := by
  rintro rfl
  obtain ⟨b0, b1, h0, _⟩ := h
  rw [h0] at e
  exact n b0 b1 (Option.some.inj e).symm
theorem bagN_tup {H : Hp} {p t : Addr} {xs : List V} (h : BagN H p) (e : H t = some (.tup xs)) : t ≠ p := bagN_ne h e fun _ _ z => nomatch z
theorem bagN_refs {H : Hp} {p s : Addr} {ts : List Addr} (bg : BagN H p) (h : H s = some (.lst (ts.map V.ref))) : s ≠ p := bagN_ne bg h fun b0 b1 z => by
  have z := HO.lst.inj z
  cases ts with
  | nil => cases z
  | cons t ts => exact V.noConfusion (List.cons.inj z).1
theorem bagN_none {H : Hp} {p q : Addr} (h : BagN H p) (e : H q = none) : q ≠ p := by
  rintro rfl
  obtain ⟨b0, b1, h0, _⟩ := h
  rw [h0] at e; cases e
theorem BagN.ne_tup {H : Hp} {p : Addr} (h : BagN H p) : ∀ xs, H p ≠ some (.tup xs) := fun xs e => by
  obtain ⟨b0, b1, h0, _⟩ := h
  rw [h0] at e; cases e
/-! ### windows, terms -/
def winP (w : Pr) : Bool := edgeI w.1 && edgeI w.2 && decide (w.1 < w.2)
theorem winP_of {a b : Int} (ha : (-1000000000000000000000000000000 ≤ a ∧ a ≤ 1000000000000000000000000000000) ∨ a = -10000000000000000000000000000000)
    (hb : (-1000000000000000000000000000000 ≤ b ∧ b ≤ 1000000000000000000000000000000) ∨ b = 10000000000000000000000000000000) (h : a < b) : winP (a, b) = true := by
  unfold winP edgeI
  simp only [Bool.and_eq_true, Bool.or_eq_true, decide_eq_true_eq]
  omega
theorem winP_lt {w : Pr} (h : winP w = true) : w.1 < w.2 := by
  unfold winP at h
  simp only [Bool.and_eq_true, decide_eq_true_eq] at h
  exact h.2
theorem winP_pair {w : Pr} (h : winP w = true) : isPair (prD w) = true := by
  unfold winP at h
  rw [Bool.and_eq_true] at h
  exact h.1
theorem strP_first' {p : Pr} (h : strP p = true) : -10000000000000000000000000000000 < p.2 := by
  unfold strP at h
  simp only [Bool.and_eq_true, decide_eq_true_eq] at h
  exact h.2.2.2
def termV (t : Nat) : V := if t = 0 then .str "busy" else if t = 1 then .str "covered" else .str "clash"
theorem term_scal (t : Nat) (x : Str) : scal (termV t) (.str x) = true := by
  unfold termV
  split
  · rfl
  · split <;> rfl
theorem term_0 (t : Nat) : decide (termV t = .str "busy") = decide (t = 0) := by
  unfold termV
  split
  · rename_i h; subst h; decide +kernel
  · rename_i h
    rw [decide_eq_false h]
    split <;> decide +kernel
theorem term_1 (t : Nat) : decide (termV t = .str "covered") = decide (t = 1) := by
  unfold termV
  split
  · rename_i h; subst h; decide +kernel
  · split
    · rename_i h; subst h; decide +kernel
    · rename_i h
      rw [decide_eq_false h]
      decide +kernel
theorem mem_term {j : Nat} {x : V} (h : ([.str "busy", .str "covered", .str "clash"] : List V)[j]? = some x) : x = termV j ∧ j < 3 := by
  match j, h with
  | 0, h => exact ⟨(Option.some.inj h).symm, by decide⟩
  | 1, h => exact ⟨(Option.some.inj h).symm, by decide⟩
  | 2, h => exact ⟨(Option.some.inj h).symm, by decide⟩
theorem srt_len {ps : List Pr} : (srt ps).length = ps.length := (srt_perm ps).length_eq
theorem mxE (m n : Int) : (if n > m then n else m) = mx m n := rfl
theorem mnE (m n : Int) : (if n < m then n else m) = mn m n := rfl
/-! ### an Answer -/
/-- the tuple of the module that holds the words -/
structure WordsT (K : PySem.W.Frag) (mg : Str → Option Value) (x : Str) (xs : List V) : Prop where
  ex : ∃ A : Addr, mg x = some (.ref A) ∧ ∀ H, SqT K H A xs
theorem pe_words' {X : Cx} {x : Str} {xs : List V} {pos : Pos} (h : WordsT X.K X.mg x xs) (hg : Gl X x) (hd : (x == ("__debug__" : Str)) = false := by decide) : PE X (.Name x pos) (fun _ H Q => ∀ A, SqT X.K H A xs → Q (.ref A) H) := by
  obtain ⟨A, hm, hs⟩ := h.ex
  have q := pe_glob (v := .ref A) (pos := pos) hg hm rfl hd
  exact ⟨fun pins s σ H R I z => q.run pins s σ H R I (z A (hs H))⟩
/-- a def with keyword-only defaults alone -/
theorem okDK {P : Program} {w : World} {K : PySem.W.Frag} {mg : Str → Option Value} {bh : Heap} {x qu : Str} {st : Stmt} {kws : List (Str × V)} {f : Addr} {fd : FuncData} {N ps : List Str} {k : Nat} {sp : Sp}
    (F : FunD K x qu (defArgs st) (defBody st) (defScope st) [] kws f fd) (S : FnScope N ps (defScope st)) (ln : ∀ vs H Q E, sp vs H Q E → vs.length = ps.length)
    (hb : ∀ (cv : Value) (B : Around) (ou : List Env) (t : Shared) (J : Hp) (ws : List V) (R : VK) (U : XK), Room k (B.deeper (envOfC qu (defScope st) t.heap.objs.size f cv)) → sp ws J R U →
      ∃ tr, PSs (cxOf CX0 P w K mg bh N qu (defScope st) f cv B ou t J U).nox (defBody st) tr ∧ tr { nx := fun _ J' => R .non J', rt := R } (L2.start N ws) J) :
    FnOk P w K mg bh CX0 (k + 1) f fd ps sp := F.ok S ln fun cv B ou t J ws R U rm h => by
  obtain ⟨tr, q, z⟩ := hb cv B ou t J ws R U rm h
  exact ⟨tr, q.nox, z⟩
/-- a method, a property, a class ready to be used -/
structure RdyMt (P : Program) (w : World) (K : PySem.W.Frag) (mg : Str → Option Value) (bh : Heap) (C : Addr) (m : Str) (k : Nat) (ps : List Str) (dvs : List V) (sp : Sp) (f : Addr) (fd : FuncData) : Prop where
  ok : FnOk P w K mg bh CX0 k f fd ps sp
  mt : Meth K C m f
  bd : Binds K fd ps []
  bd1 : ∃ ds, Vals dvs ds ∧ Binds K fd ps ds
structure RdyPr (P : Program) (w : World) (K : PySem.W.Frag) (mg : Str → Option Value) (bh : Heap) (C : Addr) (m : Str) (k : Nat) (sp : Sp) (p f : Addr) (fd : FuncData) : Prop where
  ok : FnOk P w K mg bh CX0 k f fd ["self"] sp
  pr : PropOf K C m p f
  bd : Binds K fd ["self"] []
structure RdyMk (P : Program) (w : World) (K : PySem.W.Frag) (mg : Str → Option Value) (bh : Heap) (x : Str) (C : Addr) (k : Nat) (ps : List Str) (dvs : List V) (sp : Sp) (f : Addr) (fd : FuncData) : Prop where
  ok : FnOk P w K mg bh CX0 k f fd ps sp
  mkr : Mk K C f
  gl : mg x = some (.ref C)
  bd1 : ∃ ds, Vals dvs ds ∧ Binds K fd ps ds
  kb : ∃ g, KBn K fd ps 2 ["ends"] g (fun vs zs => vs ++ zs)
structure AnsC (K : PySem.W.Frag) (C : Addr) : Prop where
  cl : Cls K C
  nW : NoAttr K C "what"
  nE : NoAttr K C "ends"
def ansFs (t : Nat) (z : Bool) : List (Str × V) := [(("what" : Str), termV t), (("ends" : Str), endsV z)]
def IsAns (H : Hp) (a C : Addr) (t : Nat) (z : Bool) : Prop := ∃ dx : Addr, H a = some (.ins C dx (ansFs t z))
theorem IsAns.same {H H' : Hp} {a C : Addr} {t : Nat} {z : Bool} (h : IsAns H a C t z) (s : Same H H') : IsAns H' a C t z := by
  obtain ⟨dx, h1⟩ := h
  exact ⟨dx, s _ _ h1⟩
theorem ans_what (t : Nat) (z : Bool) : List.lookup ("what" : Str) (ansFs t z) = some (termV t) := by simp [ansFs, List.lookup]
theorem ans_ends (t : Nat) (z : Bool) : List.lookup ("ends" : Str) (ansFs t z) = some (endsV z) := by
  have : (("ends" : Str) == ("what" : Str)) = false := by decide +kernel
  simp [ansFs, List.lookup, this]
theorem ans_no {f : Str} (t : Nat) (z : Bool) (h1 : (f == ("what" : Str)) = false) (h2 : (f == ("ends" : Str)) = false) : List.lookup f (ansFs t z) = none := by simp [ansFs, List.lookup, h1, h2]
theorem ans_put (t : Nat) (z : Bool) : putF "ends" (endsV z) (putF "what" (termV t) []) = ansFs t z := by
  have : ¬ (("what" : Str) = ("ends" : Str)) := by decide +kernel
  simp [putF, ansFs, this]
theorem Pd.rev {H : Hp} : ∀ {ts : List Addr} {ps : List Pr}, Pd H ts ps → Pd H ts.reverse ps.reverse
  | [], [], _ => trivial
  | t :: ts, r :: ps, h => by
    rw [List.reverse_cons, List.reverse_cons]
    exact (Pd.rev h.2).app ⟨h.1, trivial⟩
  | [], _ :: _, h => h.elim
  | _ :: _, [], h => h.elim
end Spk
namespace Spk
open PySem PySem.Spec PyProof.Rows L2
theorem cut_int {ns : List Int} {lo hi : Option Int} {i : Nat} {x : V} (h : (cutV (ns.map V.int) lo hi)[i]? = some x) : ∃ n, x = .int n := by
  have := List.mem_of_getElem? h
  unfold cutV at this
  have := List.mem_of_mem_drop (List.mem_of_mem_take this)
  obtain ⟨n, _, e⟩ := List.mem_map.mp this
  exact ⟨n, e.symm⟩
theorem cut_len {xs : List V} {lo hi : Option Int} : (cutV xs lo hi).length ≤ xs.length := cutV_length xs lo hi
end Spk
namespace Spk
open PySem PySem.Spec PyProof.Rows L2
/-- o.f, the written part named (within a comprehension) -/
theorem pe_fldK {X : Cx} {K : PySem.W.Frag} {e : Expr} {ta : TE} {f : Str} {pos : Pos} (ho : PE X e ta) (hb : attributeBase e f X.env (eval e X.env) = eval e X.env := by rfl) (h : X.K = K := by rfl) : PE X (.Attribute e f pos) (tFld K ta f) := h ▸ pe_fld ho hb
end Spk

namespace Spk
open PySem PySem.Spec PyProof.Rows L2
/-- but for what stands at p and q all that was tracked is as it was -/
def Ks (p q : Addr) (H H' : Hp) : Prop := ∀ b o, b ≠ p → b ≠ q → H b = some o → H' b = some o
theorem Ks.refl {p q : Addr} {H : Hp} : Ks p q H H := fun _ _ _ _ h => h
theorem Ks.trans {p q : Addr} {H H1 H2 : Hp} (a : Ks p q H H1) (b : Ks p q H1 H2) : Ks p q H H2 := fun c o n m h => b c o n m (a c o n m h)
theorem Ks.same {p q : Addr} {H H' : Hp} (s : Same H H') : Ks p q H H' := fun c o _ _ h => s c o h
theorem Ks.kp {p q : Addr} {H H' : Hp} (s : Kp p H H') : Ks p q H H' := fun c o n _ h => s c o n h
theorem Ks.kq {p q : Addr} {H H' : Hp} (s : Kp q H H') : Ks p q H H' := fun c o _ n h => s c o n h
end Spk
namespace Spk
open PySem PySem.Spec PyProof.Rows L2
theorem pcS_take {l : List Pr} {p o : Pr} {k : Nat} (h : l[k]? = some o) : (l.take (k + 1)).foldl pcS ([], p) = pcS ((l.take k).foldl pcS ([], p)) o := by
  rw [take_more h, List.foldl_append]; rfl
theorem pcS_len (l : List Pr) (p : Pr) (s : List Pr) : (l.foldl pcS (s, p)).1.length ≤ s.length + l.length := by
  rw [pcS_go]
  have := (pcGo_sub l p).length_le
  simp only [List.length_append]
  omega
theorem pcStep_pos {z : Bool} {f : List Pr} {p : Pr} (h : (z || decide (p.1 < p.2)) = true) : pcStep z f p = srt ((f.foldl pcS ([], p)).1 ++ [(f.foldl pcS ([], p)).2]) := by
  unfold pcStep
  rw [if_pos h, pcS_go]
  rfl
theorem pcStep_neg {z : Bool} {f : List Pr} {p : Pr} (h : ¬ (z || decide (p.1 < p.2)) = true) : pcStep z f p = f := by
  unfold pcStep
  rw [if_neg h]
theorem step_take {z : Bool} {ps : List Pr} {p : Pr} {i : Nat} (h : ps[i]? = some p) : (ps.take (i + 1)).foldl (pcStep z) [] = pcStep z ((ps.take i).foldl (pcStep z) []) p := by
  rw [take_more h, List.foldl_append]; rfl
end Spk
namespace Spk
/-- or, the way of yes told once -/
theorem or_mid {c1 c2 : Bool} {A C : Prop} (h : (c1 || c2) = true → A) (k : c1 = false → (c2 = true → A) → C) : if c1 = true then A else C := by
  cases c1 with
  | true => rw [if_pos rfl]; exact h rfl
  | false => rw [if_neg Bool.false_ne_true]; exact k rfl fun e => h (by rw [e]; rfl)
end Spk
namespace Spk
open PySem PySem.Spec PyProof.Rows L2
/-- one turn of a comprehension of truths over pairs -/
theorem bl_step {f : Pr → Bool} {L : List Pr} {i : Nat} {p : Pr} {H1 H4 : Hp} {D : Addr} (hp : L[i]? = some p) (nD : H1 D = none) (hl : L.length ≤ 2000) (ss : Same H1 H4) (hD : H4 D = some (.lst (((L.take i).map f).map V.bl))) {b : Bool} (e : f p = b) :
    ∃ acc, H4 D = some (.lst acc) ∧ acc.length < sizeLine ∧ Same H1 (upd H4 D (.lst (acc ++ [.bl b]))) ∧ upd H4 D (.lst (acc ++ [.bl b])) D = some (.lst (((L.take (i + 1)).map f).map V.bl)) := by
  have hk : (L.take i).length ≤ L.length := List.length_take_le' ..
  refine ⟨_, hD, ?_, fun c o hb => ?_, ?_⟩
  · rw [List.length_map, List.length_map]
    have : (2000 : Nat) < sizeLine := by decide
    omega
  · rw [upd_ne (ne_of_none hb nD)]
    exact ss _ _ hb
  · rw [upd_same, take_more hp, List.map_append, List.map_append, ← e]
    rfl
theorem any_bl {f : Pr → Bool} {L : List Pr} : (L.map f).any id = L.any f := by
  rw [List.any_map]; rfl
end Spk
namespace Spk
open PySem PySem.Spec PyProof.Rows L2
theorem same_kp {p : Addr} {H H1 H2 : Hp} (np : H p = none) (a : Same H H1) (b : Kp p H1 H2) : Same H H2 := fun c o h => b c o (ne_of_none h np) (a c o h)
/-- what was made behind, at L, may be changed -/
theorem kp_ks {p L : Addr} {H H1 H2 : Hp} (k : Kp p H H1) (nL : H1 L = none) (neL : L ≠ p) (b : Ks p L H1 H2) : Kp p H H2 := fun c o n h =>
  b c o n (fun z => by subst z; rw [k _ _ n h] at nL; cases nL) (k c o n h)
theorem ks_new {p L : Addr} {H H1 : Hp} {o : HO} (nL : H L = none) (b : Ks p L (upd H L o) H1) (neL : L ≠ p) : Kp p H H1 := fun c u n h =>
  b c u n (ne_of_none h nL) (by rw [upd_ne (ne_of_none h nL)]; exact h)
theorem take_good {ps : List Pr} {n : Nat} (h : ∀ x ∈ ps, strP x = true) : ∀ x ∈ ps.take n, strP x = true := fun x hx => h x (List.mem_of_mem_take hx)
theorem drop_good {ps : List Pr} {n : Nat} (h : ∀ x ∈ ps, strP x = true) : ∀ x ∈ ps.drop n, strP x = true := fun x hx => h x (List.mem_of_mem_drop hx)
theorem eqv_self (ps : List Pr) : (!PyData.eqv (.list (ps.map prD)) (.list (ps.map prD))) = false := by rw [eqvPs, decide_eq_true rfl]; rfl
end Spk
namespace Spk
open PySem PySem.Spec PyProof.Rows L2
theorem iteFe {c : Bool} {A B : Prop} (h : c = false) (b : B) : if c = true then A else B := by
  rw [h, if_neg Bool.false_ne_true]; exact b
theorem in_bools (d : Bool) : inV (.bl d) [.bl true, .bl false] = true := by cases d <;> decide +kernel
theorem same_make {o dx C : Addr} {H H' : Hp} (no : H o = none) (nd : H dx = none) (k : Kp o (upd (upd H dx (.own o)) o (.ins C dx [])) H') : Same H H' := fun b u e =>
  k b u (ne_of_none e no) (by rw [upd_ne (ne_of_none e no), upd_ne (ne_of_none e nd)]; exact e)
theorem no_wished (t : Nat) (z : Bool) : List.lookup ("wished" : Str) (ansFs t z) = none := ans_no t z (by decide +kernel) (by decide +kernel)
end Spk

namespace Spk
open PySem PySem.Spec PyProof.Rows L2
/-- a shorter reading of an expression -/
theorem pe_imp {X : Cx} {e : Expr} {t t' : TE} (h : PE X e t) (i : ∀ σ H Q, t' σ H Q → t σ H Q) : PE X e t' := ⟨fun pins s σ H Q I z => h.run pins s σ H Q I (i σ H Q z)⟩
/-! ### what the wishes for numbers count -/
def hldB (z : Bool) (p : Pr) (i : Int) : Bool := decide (p.1 ≤ i) && (if z then decide (i ≤ p.2) else decide (i < p.2))
/-- t: 0 all, 1 full, 2 left, 3 within, 4 touched, 5 pieces -/
def cntB (t : Nat) (z : Bool) (w p : Pr) : Bool := if t = 1 then !emp z p else if t = 2 then hldB z p w.1 else if t = 3 then (decide (w.1 ≤ p.1) && decide (p.2 ≤ w.2)) else if t = 4 then meetB z p w else true
def numB (t : Nat) (z : Bool) (ps : List Pr) (w : Pr) : Int := if t = 5 then ((unionM z ps).length : Int) else ((ps.filter (cntB t z w)).length : Int)
def numS (t : Nat) : Str := if t = 0 then "all" else if t = 1 then "full" else if t = 2 then "left" else if t = 3 then "within" else if t = 4 then "touched" else "pieces"
def numV (t : Nat) : V := .str (numS t)
theorem six {P : Nat → Prop} {t : Nat} (h : t < 6) (h0 : P 0) (h1 : P 1) (h2 : P 2) (h3 : P 3) (h4 : P 4) (h5 : P 5) : P t := by
  have : t = 0 ∨ t = 1 ∨ t = 2 ∨ t = 3 ∨ t = 4 ∨ t = 5 := by omega
  rcases this with rfl | rfl | rfl | rfl | rfl | rfl <;> assumption
theorem num_full {t : Nat} (h : t < 6) : decide (numV t = .str "full") = decide (t = 1) := six (P := fun t => decide (numV t = .str "full") = decide (t = 1)) h (by decide +kernel) (by decide +kernel) (by decide +kernel) (by decide +kernel) (by decide +kernel) (by decide +kernel)
theorem num_left {t : Nat} (h : t < 6) : decide (numV t = .str "left") = decide (t = 2) := six (P := fun t => decide (numV t = .str "left") = decide (t = 2)) h (by decide +kernel) (by decide +kernel) (by decide +kernel) (by decide +kernel) (by decide +kernel) (by decide +kernel)
theorem num_within {t : Nat} (h : t < 6) : decide (numV t = .str "within") = decide (t = 3) := six (P := fun t => decide (numV t = .str "within") = decide (t = 3)) h (by decide +kernel) (by decide +kernel) (by decide +kernel) (by decide +kernel) (by decide +kernel) (by decide +kernel)
theorem num_touched {t : Nat} (h : t < 6) : decide (numV t = .str "touched") = decide (t = 4) := six (P := fun t => decide (numV t = .str "touched") = decide (t = 4)) h (by decide +kernel) (by decide +kernel) (by decide +kernel) (by decide +kernel) (by decide +kernel) (by decide +kernel)
theorem num_pieces {t : Nat} (h : t < 6) : decide (numV t = .str "pieces") = decide (t = 5) := six (P := fun t => decide (numV t = .str "pieces") = decide (t = 5)) h (by decide +kernel) (by decide +kernel) (by decide +kernel) (by decide +kernel) (by decide +kernel) (by decide +kernel)
theorem num_mem {t : Nat} (h : t < 6) : inV (numV t) [.str "all", .str "full", .str "left", .str "within", .str "touched", .str "pieces"] = true := six (P := fun t => inV (numV t) [.str "all", .str "full", .str "left", .str "within", .str "touched", .str "pieces"] = true) h (by decide +kernel) (by decide +kernel) (by decide +kernel) (by decide +kernel) (by decide +kernel) (by decide +kernel)
theorem num_uses {t : Nat} (h : t < 6) : inV (numV t) [.str "left", .str "within", .str "touched"] = (decide (2 ≤ t) && decide (t ≤ 4)) := six (P := fun t => inV (numV t) [.str "left", .str "within", .str "touched"] = (decide (2 ≤ t) && decide (t ≤ 4))) h (by decide +kernel) (by decide +kernel) (by decide +kernel) (by decide +kernel) (by decide +kernel) (by decide +kernel)
theorem num_free {t : Nat} (h : t < 6) : inV (numV t) [.str "all", .str "full", .str "pieces"] = (decide (t ≤ 1) || decide (t = 5)) := six (P := fun t => inV (numV t) [.str "all", .str "full", .str "pieces"] = (decide (t ≤ 1) || decide (t = 5))) h (by decide +kernel) (by decide +kernel) (by decide +kernel) (by decide +kernel) (by decide +kernel) (by decide +kernel)
theorem mem_num {j : Nat} {x : V} (h : ([.str "all", .str "full", .str "left", .str "within", .str "touched", .str "pieces"] : List V)[j]? = some x) : x = numV j ∧ j < 6 := by
  match j, h with
  | 0, h => exact ⟨(Option.some.inj h).symm, by decide⟩
  | 1, h => exact ⟨(Option.some.inj h).symm, by decide⟩
  | 2, h => exact ⟨(Option.some.inj h).symm, by decide⟩
  | 3, h => exact ⟨(Option.some.inj h).symm, by decide⟩
  | 4, h => exact ⟨(Option.some.inj h).symm, by decide⟩
  | 5, h => exact ⟨(Option.some.inj h).symm, by decide⟩
theorem num_rev {t : Nat} {z : Bool} {ps : List Pr} {w : Pr} : numB t z ps.reverse w = numB t z ps w := by
  unfold numB
  rw [union_rev, List.filter_reverse, List.length_reverse]
theorem num_nil {t : Nat} {z : Bool} {w : Pr} : numB t z [] w = 0 := by
  unfold numB
  split <;> rfl
theorem num_snoc {t : Nat} {z : Bool} {ps : List Pr} {x w : Pr} (h : t ≠ 5) : numB t z (ps ++ [x]) w - numB t z ps w = numB t z [x] w := by
  unfold numB
  rw [if_neg h, if_neg h, if_neg h, List.filter_append, List.length_append]
  omega
theorem num_nn {t : Nat} {z : Bool} {ps : List Pr} {w : Pr} : 0 ≤ numB t z ps w := by
  unfold numB
  split <;> omega
/-! ### a Number -/
def numFs (t : Nat) (z : Bool) : List (Str × V) := [(("what" : Str), numV t), (("ends" : Str), endsV z)]
def IsNum (H : Hp) (a C : Addr) (t : Nat) (z : Bool) : Prop := ∃ dx : Addr, H a = some (.ins C dx (numFs t z))
theorem IsNum.same {H H' : Hp} {a C : Addr} {t : Nat} {z : Bool} (h : IsNum H a C t z) (s : Same H H') : IsNum H' a C t z := by
  obtain ⟨dx, h1⟩ := h
  exact ⟨dx, s _ _ h1⟩
theorem numF_what (t : Nat) (z : Bool) : List.lookup ("what" : Str) (numFs t z) = some (numV t) := by simp [numFs, List.lookup]
theorem numF_ends (t : Nat) (z : Bool) : List.lookup ("ends" : Str) (numFs t z) = some (endsV z) := by
  have : (("ends" : Str) == ("what" : Str)) = false := by decide +kernel
  simp [numFs, List.lookup, this]
theorem numF_wished (t : Nat) (z : Bool) : List.lookup ("wished" : Str) (numFs t z) = none := by
  have h1 : (("wished" : Str) == ("what" : Str)) = false := by decide +kernel
  have h2 : (("wished" : Str) == ("ends" : Str)) = false := by decide +kernel
  simp [numFs, List.lookup, h1, h2]
theorem num_put (t : Nat) (z : Bool) : putF "ends" (endsV z) (putF "what" (numV t) []) = numFs t z := by
  have : ¬ (("what" : Str) = ("ends" : Str)) := by decide +kernel
  simp [putF, numFs, this]
/-! ### the law's expressions, read in short: slots a (the stretch), b (the window), c (the ends) -/
def tFullS (K : PySem.W.Frag) (a c : Nat) : TE := fun σ H Q => ∃ (t : Addr) (p : Pr) (z : Bool), σ[a]? = some (some (.ref t)) ∧ σ[c]? = some (some (endsV z)) ∧ SqT K H t [.int p.1, .int p.2] ∧ p.1 ≤ p.2 ∧ Q (.bl (!emp z p)) H
def tLeftS (K : PySem.W.Frag) (a b c : Nat) : TE := fun σ H Q => ∃ (t u : Addr) (p w : Pr) (z : Bool), σ[a]? = some (some (.ref t)) ∧ σ[b]? = some (some (.ref u)) ∧ σ[c]? = some (some (endsV z)) ∧ SqT K H t [.int p.1, .int p.2] ∧ SqT K H u [.int w.1, .int w.2] ∧ p.1 ≤ p.2 ∧ Q (.bl (hldB z p w.1)) H
def tWithS (K : PySem.W.Frag) (a b : Nat) : TE := fun σ H Q => ∃ (t u : Addr) (p w : Pr), σ[a]? = some (some (.ref t)) ∧ σ[b]? = some (some (.ref u)) ∧ SqT K H t [.int p.1, .int p.2] ∧ SqT K H u [.int w.1, .int w.2] ∧ Q (.bl (decide (w.1 ≤ p.1) && decide (p.2 ≤ w.2))) H
def rowsK (f : Bool) : List (Key × V) := [(Sum.inr ("all" : Str), .bl true), (Sum.inr ("full" : Str), .bl f)]
def rowsW (f l i m : Bool) : List (Key × V) := [(Sum.inr ("all" : Str), .bl true), (Sum.inr ("full" : Str), .bl f), (Sum.inr ("left" : Str), .bl l), (Sum.inr ("within" : Str), .bl i), (Sum.inr ("touched" : Str), .bl m)]
end Spk
namespace Spk
open PySem PySem.Spec PyProof.Rows L2
theorem emp_full_t {z : Bool} {p : Pr} (h : z = true) (le : p.1 ≤ p.2) : (!emp z p) = true := by
  subst h
  show (!decide (p.2 < p.1)) = true
  rw [decide_eq_false (by omega)]; rfl
theorem emp_full_f {z : Bool} {p : Pr} (h : ¬ z = true) : (!emp z p) = decide (p.1 < p.2) := by
  have : z = false := by cases z <;> simp_all
  subst this
  show (!decide (p.2 ≤ p.1)) = decide (p.1 < p.2)
  rw [Bool.eq_iff_iff]
  simp
theorem hld_in {z : Bool} {p : Pr} {i : Int} (h1 : p.1 ≤ i) (h2 : i < p.2) : hldB z p i = true := by
  unfold hldB
  cases z <;> simp <;> omega
theorem hld_out {z : Bool} {p : Pr} {i : Int} (h : ¬ p.1 ≤ i) (le : p.1 ≤ p.2) : (z && decide (V.int p.2 = V.int i)) = false ∧ hldB z p i = false := by
  have : ¬ p.2 = i := by omega
  unfold hldB
  rw [decide_eq_false h]
  exact ⟨by rw [decide_eq_false fun e => this (V.int.inj e)]; cases z <;> rfl, rfl⟩
theorem hld_end {z : Bool} {p : Pr} {i : Int} (h1 : p.1 ≤ i) (h2 : ¬ i < p.2) : hldB z p i = (z && decide (V.int p.2 = V.int i)) := by
  unfold hldB
  rw [Bool.eq_iff_iff]
  cases z <;> simp <;> omega
theorem merge_rows (f : Bool) : mergeK [] (rowsK f) = rowsK f := by cases f <;> decide +kernel
theorem put_rows (f l i m : Bool) : putK (putK (putK (rowsK f) (Sum.inr ("left" : Str)) (.bl l)) (Sum.inr ("within" : Str)) (.bl i)) (Sum.inr ("touched" : Str)) (.bl m) = rowsW f l i m := by
  cases f <;> cases l <;> cases i <;> cases m <;> decide +kernel
theorem val_rowsK {t : Nat} (h : t ≤ 1) (f : Bool) : valV (rowsK f) (Sum.inr (numS t)) = some (.bl (if t = 1 then f else true)) := by
  have : t = 0 ∨ t = 1 := by omega
  rcases this with rfl | rfl <;> cases f <;> decide +kernel
theorem val_rowsW {t : Nat} (h : t < 5) (f l i m : Bool) : valV (rowsW f l i m) (Sum.inr (numS t)) = some (.bl (if t = 1 then f else if t = 2 then l else if t = 3 then i else if t = 4 then m else true)) := by
  have : t = 0 ∨ t = 1 ∨ t = 2 ∨ t = 3 ∨ t = 4 := by omega
  rcases this with rfl | rfl | rfl | rfl | rfl <;> cases f <;> cases l <;> cases i <;> cases m <;> decide +kernel
end Spk

namespace Spk
open PySem PySem.Spec PyProof.Rows L2
/-! ### how often a moment is held, by the sorted changes -/
def turn1 (z : Bool) (p : Pr) : List Pr := if emp z p then [] else [(p.1, 1), (if z then p.2 + 1 else p.2, -1)]
def turnsM (z : Bool) (ps : List Pr) : List Pr := ps.flatMap (turn1 z)
/-- the sum of the steps up to a moment -/
def cM (ts : List Pr) (m : Int) : Int := ((ts.filter fun t => decide (t.1 ≤ m)).map (·.2)).sum
def sumK (ts : List Pr) : Int := (ts.map (·.2)).sum
theorem cM_app (ts us : List Pr) (m : Int) : cM (ts ++ us) m = cM ts m + cM us m := by
  unfold cM
  rw [List.filter_append, List.map_append, List.sum_append_int]
theorem cM_perm {ts us : List Pr} (h : ts.Perm us) (m : Int) : cM ts m = cM us m := by
  induction h with
  | nil => rfl
  | @cons x a b p ih =>
    have e1 : ∀ l, cM (x :: l) m = cM [x] m + cM l m := fun l => cM_app [x] l m
    rw [e1, e1 b, ih]
  | swap x y l =>
    have e1 : ∀ x y, cM (x :: y :: l) m = cM [x] m + (cM [y] m + cM l m) := fun x y => by
      rw [show x :: y :: l = [x] ++ ([y] ++ l) from rfl, cM_app, cM_app]
    rw [e1, e1 x y]; omega
  | trans p1 p2 h1 h2 => exact h1.trans h2
theorem cM_one (t : Pr) (m : Int) : cM [t] m = if t.1 ≤ m then t.2 else 0 := by
  unfold cM
  by_cases h : t.1 ≤ m
  · rw [if_pos h, List.filter_cons_of_pos (by simpa using h)]
    simp
  · rw [if_neg h, List.filter_cons_of_neg (by simpa using h)]
    simp
theorem cM_turn {z : Bool} {p : Pr} (h : p.1 ≤ p.2) (m : Int) : cM (turn1 z p) m = if hldB z p m then 1 else 0 := by
  unfold turn1 emp hldB
  cases z with
  | true =>
    rw [if_pos rfl, if_neg (by simp; omega)]
    rw [show ∀ a b : Pr, [a, b] = [a] ++ [b] from fun _ _ => rfl, cM_app, cM_one, cM_one]
    simp only [if_true, Bool.and_eq_true, decide_eq_true_eq]
    (repeat' split) <;> omega
  | false =>
    simp only [Bool.false_eq_true, if_false, decide_eq_true_eq, Bool.and_eq_true]
    by_cases c : p.2 ≤ p.1
    · rw [if_pos c, if_neg (by omega)]; rfl
    · rw [if_neg c, show ∀ a b : Pr, [a, b] = [a] ++ [b] from fun _ _ => rfl, cM_app, cM_one, cM_one]
      (repeat' split) <;> omega
theorem cM_turns {z : Bool} (m : Int) : ∀ {ps : List Pr}, (∀ p ∈ ps, p.1 ≤ p.2) → cM (turnsM z ps) m = ((ps.filter fun p => hldB z p m).length : Int)
  | [], _ => rfl
  | p :: r, h => by
    have ih := cM_turns (z := z) m (ps := r) fun q hq => h q (List.mem_cons_of_mem _ hq)
    rw [show turnsM z (p :: r) = turn1 z p ++ turnsM z r from rfl, cM_app, ih, cM_turn (h p List.mem_cons_self)]
    by_cases c : hldB z p m = true
    · rw [if_pos c, List.filter_cons_of_pos (by simpa using c), List.length_cons]; omega
    · rw [if_neg c, List.filter_cons_of_neg (by simpa using c)]; omega
theorem turns_len {z : Bool} : ∀ (ps : List Pr), (turnsM z ps).length ≤ 2 * ps.length
  | [] => Nat.le_refl _
  | p :: r => by
    have ih := turns_len (z := z) r
    rw [show turnsM z (p :: r) = turn1 z p ++ turnsM z r from rfl, List.length_append, List.length_cons]
    have : (turn1 z p).length ≤ 2 := by unfold turn1; split <;> simp
    omega
theorem turns_snoc {z : Bool} (ps : List Pr) (p : Pr) : turnsM z (ps ++ [p]) = turnsM z ps ++ turn1 z p := by
  unfold turnsM
  rw [List.flatMap_append]; simp
theorem cM_all {ts : List Pr} {m : Int} (h : ∀ t ∈ ts, t.1 ≤ m) : cM ts m = sumK ts := by
  unfold cM sumK
  rw [List.filter_eq_self.mpr fun t ht => by simpa using h t ht]
theorem cM_none {ts : List Pr} {m : Int} (h : ∀ t ∈ ts, m < t.1) : cM ts m = 0 := by
  unfold cM
  rw [List.filter_eq_nil_iff.mpr fun t ht => by have := h t ht; simp; omega]; rfl
/-- what the walk has passed is what the moment has passed -/
theorem cM_take {ts : List Pr} {m : Int} {k : Nat} (s : ts.Pairwise ple) (h1 : ∀ t ∈ ts.take k, t.1 ≤ m) (h2 : ∀ t, ts[k]? = some t → m < t.1) : sumK (ts.take k) = cM ts m := by
  have e := cM_app (ts.take k) (ts.drop k) m
  rw [List.take_append_drop] at e
  rw [e, cM_all h1, cM_none, Int.add_zero]
  intro t ht
  have hk : k < ts.length := by
    rcases Nat.lt_or_ge k ts.length with h | h
    · exact h
    · rw [List.drop_eq_nil_of_le h] at ht; cases ht
  have h0 := h2 _ (List.getElem?_eq_getElem hk)
  rw [List.drop_eq_getElem_cons hk] at ht
  rcases List.mem_cons.mp ht with rfl | ht
  · exact h0
  · have sp := (List.pairwise_iff_getElem.mp s)
    obtain ⟨i, hi, rfl⟩ := List.mem_iff_getElem.mp ht
    rw [List.getElem_drop]
    rw [List.length_drop] at hi
    have := sp k (k + 1 + i) hk (by omega) (by omega)
    unfold ple at this
    omega
theorem sumK_snoc (ts : List Pr) (t : Pr) : sumK (ts ++ [t]) = sumK ts + t.2 := by
  unfold sumK
  rw [List.map_append, List.sum_append_int]; simp
theorem srt_turns (z : Bool) {ps : List Pr} (h : ∀ p ∈ ps, p.1 ≤ p.2) (m : Int) : cM (srt (turnsM z ps)) m = ((ps.filter fun p => hldB z p m).length : Int) :=
  (cM_perm (srt_perm _) m).trans (cM_turns m h)
/-- how many stretches hold a moment -/
def hldN (z : Bool) (ps : List Pr) (m : Int) : Int := ((ps.filter fun p => hldB z p m).length : Int)
/-! ### which times are wished -/
/-- t: 0 some, 1 none, 2 all, 3 one, 4 two, 5 each -/
def wndB (t : Nat) (held many : Int) : Int := if t = 5 then held else if (if t = 0 then decide (0 < held) else if t = 1 then decide (held = 0) else if t = 2 then decide (held = many) else if t = 3 then decide (held = 1) else decide (1 < held)) = true then 1 else 0
def wndS (t : Nat) : Str := if t = 0 then "some" else if t = 1 then "none" else if t = 2 then "all" else if t = 3 then "one" else if t = 4 then "two" else if t = 5 then "each" else "inside"
def wndV (t : Nat) : V := .str (wndS t)
theorem wnd_is {t : Nat} (h : t < 6) (x : Str) (u : Nat) (e : decide (wndV 0 = .str x) = decide (0 = u) ∧ decide (wndV 1 = .str x) = decide (1 = u) ∧ decide (wndV 2 = .str x) = decide (2 = u) ∧ decide (wndV 3 = .str x) = decide (3 = u) ∧ decide (wndV 4 = .str x) = decide (4 = u) ∧ decide (wndV 5 = .str x) = decide (5 = u)) : decide (wndV t = .str x) = decide (t = u) :=
  six (P := fun t => decide (wndV t = .str x) = decide (t = u)) h e.1 e.2.1 e.2.2.1 e.2.2.2.1 e.2.2.2.2.1 e.2.2.2.2.2
theorem wnd_each {t : Nat} (h : t < 6) : decide (wndV t = .str "each") = decide (t = 5) := wnd_is h _ _ (by decide +kernel)
theorem wnd_some {t : Nat} (h : t < 6) : decide (wndV t = .str "some") = decide (t = 0) := wnd_is h _ _ (by decide +kernel)
theorem wnd_none {t : Nat} (h : t < 6) : decide (wndV t = .str "none") = decide (t = 1) := wnd_is h _ _ (by decide +kernel)
theorem wnd_all {t : Nat} (h : t < 6) : decide (wndV t = .str "all") = decide (t = 2) := wnd_is h _ _ (by decide +kernel)
theorem wnd_one {t : Nat} (h : t < 6) : decide (wndV t = .str "one") = decide (t = 3) := wnd_is h _ _ (by decide +kernel)
theorem wnd_inside {t : Nat} (h : t < 6) : decide (wndV t = .str "inside") = false := (wnd_is h _ 6 (by decide +kernel)).trans (decide_eq_false (by omega))
theorem mem_wnd {j : Nat} {x : V} (h : ([.str "some", .str "none", .str "all", .str "one", .str "two", .str "each"] : List V)[j]? = some x) : x = wndV j ∧ j < 6 := by
  match j, h with
  | 0, h => exact ⟨(Option.some.inj h).symm, by decide⟩
  | 1, h => exact ⟨(Option.some.inj h).symm, by decide⟩
  | 2, h => exact ⟨(Option.some.inj h).symm, by decide⟩
  | 3, h => exact ⟨(Option.some.inj h).symm, by decide⟩
  | 4, h => exact ⟨(Option.some.inj h).symm, by decide⟩
  | 5, h => exact ⟨(Option.some.inj h).symm, by decide⟩
  | (n + 6), h => exact absurd h (by simp)
theorem turn1_ne {z : Bool} {p : Pr} (h : emp z p = false) : turn1 z p = [(p.1, 1)] ++ [(if z then p.2 + 1 else p.2, -1)] := by
  unfold turn1; rw [if_neg (by rw [h]; decide)]; rfl
theorem turn1_em {z : Bool} {p : Pr} (h : emp z p = true) : turn1 z p = [] := by
  unfold turn1; rw [if_pos h]
/-! ### a walk over what stays, beside a list that grows -/
theorem sqK_app {K : PySem.W.Frag} {H H' : Hp} {L a : Addr} {xs us : List V} (s : Same H H') (hL : H' L = some (.lst us)) (h0 : xs = [] → us = []) : SqK K (upd H L (.lst [])) H' a xs := by
  by_cases c : a = L
  · subst c
    refine ⟨fun h => ?_, fun h => ?_⟩
    · rcases h with (h | ⟨o, h⟩) | h
      · rw [upd_same] at h
        have e : [] = xs := by injection h with h; injection h
        refine .inl (.inl ?_)
        rw [hL, h0 e.symm, e]
      · rw [upd_same] at h; cases h
      · exact .inr h
    · rcases h with (h | ⟨o, h⟩) | h
      · rw [upd_same] at h; cases h
      · rw [upd_same] at h; cases h
      · exact .inr h
  · refine ⟨fun h => ?_, fun h => ?_⟩
    · rcases h with (h | ⟨o, h⟩) | h
      · rw [upd_ne c] at h; exact .inl (.inl (s _ _ h))
      · rw [upd_ne c] at h; exact .inl (.inr ⟨o, s _ _ h⟩)
      · exact .inr h
    · rcases h with (h | ⟨o, h⟩) | h
      · rw [upd_ne c] at h; exact .inl (.inl (s _ _ h))
      · rw [upd_ne c] at h; exact .inl (.inr ⟨o, s _ _ h⟩)
      · exact .inr h
theorem Pd.nil {H : Hp} {us : List Addr} (h : Pd H us []) : us = [] := by
  cases us with
  | nil => rfl
  | cons _ _ => exact h.elim
/-- a pair behind a list, as a new tuple -/
theorem app_pair {H : Hp} {L T : Addr} {us : List Addr} {qs : List Pr} {x : Pr} (hL : H L = some (.lst (us.map V.ref))) (pu : Pd H us qs) (nT : H T = none) :
    (upd (upd H T (.tup [.int x.1, .int x.2])) L (.lst (us.map V.ref ++ [.ref T]))) L = some (.lst ((us ++ [T]).map V.ref)) ∧ Pd (upd (upd H T (.tup [.int x.1, .int x.2])) L (.lst (us.map V.ref ++ [.ref T]))) (us ++ [T]) (qs ++ [x]) := by
  refine ⟨by rw [upd_same, List.map_append]; rfl, ?_⟩
  have sT := Same.new (o := .tup [.int x.1, .int x.2]) nT
  have hL' := sT _ _ hL
  refine Pd.app (Pd.kp Kp.at_ (fun xs z => by rw [hL'] at z; cases z) (pu.same sT)) ⟨?_, trivial⟩
  rw [upd_ne (Ne.symm (ne_of_none hL nT)), upd_same]
theorem app_same {H0 H : Hp} {L T : Addr} {o u : HO} (s : Same H0 H) (nL : H0 L = none) (nT : H T = none) : Same H0 (upd (upd H T o) L u) := fun b w e => by
  rw [upd_ne (ne_of_none e nL), upd_ne (ne_of_none (s _ _ e) nT)]; exact s _ _ e
/-! ### events -/
abbrev Evt := Bool × Int
def evW (b : Bool) : V := .str (if b then "in" else "out")
def evP (e : Evt) : Bool := decide (-1000000000000000000000000000000 ≤ e.2) && decide (e.2 ≤ 1000000000000000000000000000000)
def Ev (H : Hp) : List Addr → List Evt → Prop
  | [], [] => True
  | t :: ts, e :: es => H t = some (.tup [evW e.1, .int e.2]) ∧ Ev H ts es
  | _, _ => False
theorem Ev.len {H : Hp} : ∀ {ts : List Addr} {ps : List Evt}, Ev H ts ps → ts.length = ps.length
  | [], [], _ => rfl
  | t :: ts, p :: ps, h => by simp [Ev.len h.2]
  | [], _ :: _, h => h.elim
  | _ :: _, [], h => h.elim
theorem Ev.same {H H' : Hp} (e : Same H H') : ∀ {ts : List Addr} {ps : List Evt}, Ev H ts ps → Ev H' ts ps
  | [], [], _ => trivial
  | t :: ts, p :: ps, h => ⟨e _ _ h.1, Ev.same e h.2⟩
  | [], _ :: _, h => h.elim
  | _ :: _, [], h => h.elim
theorem Ev.kp {q : Addr} {H H' : Hp} (e : Kp q H H') (hq : ∀ xs, H q ≠ some (.tup xs)) : ∀ {ts : List Addr} {ps : List Evt}, Ev H ts ps → Ev H' ts ps
  | [], [], _ => trivial
  | t :: ts, p :: ps, h => ⟨e _ _ (fun z => hq _ (z ▸ h.1)) h.1, Ev.kp e hq h.2⟩
  | [], _ :: _, h => h.elim
  | _ :: _, [], h => h.elim
theorem Ev.get {H : Hp} : ∀ {ts : List Addr} {ps : List Evt}, Ev H ts ps → ∀ {i : Nat} {t : Addr}, ts[i]? = some t → ∃ p, ps[i]? = some p ∧ H t = some (.tup [evW p.1, .int p.2])
  | [], [], _, i, t, h => by simp at h
  | t :: ts, p :: ps, h, 0, t', e => by
    simp at e; subst e
    exact ⟨p, rfl, h.1⟩
  | t :: ts, p :: ps, h, i + 1, t', e => by
    obtain ⟨q, h1, h2⟩ := Ev.get h.2 (i := i) (t := t') (by simpa using e)
    exact ⟨q, by simpa using h1, h2⟩
  | [], _ :: _, h, _, _, _ => h.elim
  | _ :: _, [], h, _, _, _ => h.elim
theorem Ev.app {H : Hp} : ∀ {ts : List Addr} {ps : List Evt} {us : List Addr} {qs : List Evt}, Ev H ts ps → Ev H us qs → Ev H (ts ++ us) (ps ++ qs)
  | [], [], _, _, _, h => h
  | t :: ts, p :: ps, _, _, h, k => ⟨h.1, Ev.app h.2 k⟩
  | [], _ :: _, _, _, h, _ => h.elim
  | _ :: _, [], _, _, h, _ => h.elim
theorem Ev.take {H : Hp} : ∀ {ts : List Addr} {ps : List Evt} (n : Nat), Ev H ts ps → Ev H (ts.take n) (ps.take n)
  | [], [], n, _ => by simp [Ev]
  | t :: ts, p :: ps, 0, _ => trivial
  | t :: ts, p :: ps, n + 1, h => ⟨h.1, Ev.take n h.2⟩
  | [], _ :: _, _, h => h.elim
  | _ :: _, [], _, h => h.elim
theorem Ev.drop {H : Hp} : ∀ {ts : List Addr} {ps : List Evt} (n : Nat), Ev H ts ps → Ev H (ts.drop n) (ps.drop n)
  | [], [], n, _ => by simp [Ev]
  | t :: ts, p :: ps, 0, h => h
  | t :: ts, p :: ps, n + 1, h => Ev.drop n h.2
  | [], _ :: _, _, h => h.elim
  | _ :: _, [], _, h => h.elim
def evD (e : Evt) : PyData := .tuple [.str (if e.1 then "in" else "out"), .int e.2]
theorem Ev.dp {K : PySem.W.Frag} {H : Hp} : ∀ {ts : List Addr} {ps : List Evt}, Ev H ts ps → DpAll K H (ts.map V.ref) (ps.map evD)
  | [], [], _ => .nil
  | t :: ts, p :: ps, h => .cons (.tup (SqT.hp h.1) (.cons (.str _) (.cons (.int _) .nil))) (Ev.dp h.2)
  | [], _ :: _, h => h.elim
  | _ :: _, [], h => h.elim
theorem evW_in (b : Bool) : decide (evW b = .str "in") = b := by cases b <;> decide +kernel
theorem evW_mem (b : Bool) : inV (evW b) [.str "in", .str "out"] = true := by cases b <;> decide +kernel
theorem evW_flat (b : Bool) : flatV (evW b) = true := by cases b <;> rfl
/-- the state behind the events up to a moment -/
def lastE (es : List Evt) : Bool := match es.getLast? with | some e => e.1 | none => false
def insE (es : List Evt) (m : Int) : Int := if lastE (es.filter fun e => decide (e.2 ≤ m)) = true then 1 else 0
theorem ev_filter {es : List Evt} {m : Int} {k : Nat} (s : es.Pairwise fun a b => a.2 ≤ b.2) (h1 : ∀ t ∈ es.take k, t.2 ≤ m) (h2 : ∀ t, es[k]? = some t → m < t.2) : (es.filter fun e => decide (e.2 ≤ m)) = es.take k := by
  have e := congrArg (List.filter fun e : Evt => decide (e.2 ≤ m)) (List.take_append_drop k es)
  rw [List.filter_append] at e
  rw [← e, List.filter_eq_self.mpr fun t ht => by simpa using h1 t ht, List.filter_eq_nil_iff.mpr, List.append_nil]
  intro t ht
  have hk : k < es.length := by
    rcases Nat.lt_or_ge k es.length with h | h
    · exact h
    · rw [List.drop_eq_nil_of_le h] at ht; cases ht
  have h0 := h2 _ (List.getElem?_eq_getElem hk)
  have gt : m < t.2 := by
    rw [List.drop_eq_getElem_cons hk] at ht
    rcases List.mem_cons.mp ht with rfl | ht
    · exact h0
    · have sp := List.pairwise_iff_getElem.mp s
      obtain ⟨i, hi, rfl⟩ := List.mem_iff_getElem.mp ht
      rw [List.getElem_drop]
      rw [List.length_drop] at hi
      have := sp k (k + 1 + i) hk (by omega) (by omega)
      omega
  simp only [decide_eq_true_eq]
  omega
theorem lastE_take {es : List Evt} {k : Nat} {e : Evt} (h : es[k]? = some e) : lastE (es.take (k + 1)) = e.1 := by
  unfold lastE
  rw [take_more h, List.getLast?_append]; rfl
theorem lastE_zero {es : List Evt} : lastE (es.take 0) = false := by rw [List.take_zero]; rfl
theorem rIxSq {K : PySem.W.Frag} {H : Hp} {a : Addr} {xs : List V} {i : Int} {v : V} {Q : VK} (sq : Sq K H a xs) (h : atI xs i = some v) (q : Q v H) : rIx K (.ref a) (.int i) H Q :=
  sq.elim (fun s => .inl ⟨a, xs, i, v, rfl, rfl, s, h, q⟩) (fun s => .inr (.inl ⟨a, xs, i, v, rfl, rfl, s, h, q⟩))
/-! ### a Moments -/
abbrev WTm : List V := [.str "some", .str "none", .str "all", .str "one", .str "two", .str "each", .str "inside"]
abbrev WFm : List V := [.str "any", .str "full", .str "one", .str "cut"]
theorem seven {P : Nat → Prop} {t : Nat} (h : t < 7) (h6 : t < 6 → P t) (h7 : P 6) : P t := by
  by_cases c : t < 6
  · exact h6 c
  · obtain rfl : t = 6 := by omega
    exact h7
theorem wnd_mem {t : Nat} (h : t < 7) : flatV (wndV t) = true ∧ inV (wndV t) WTm = true :=
  seven (P := fun t => flatV (wndV t) = true ∧ inV (wndV t) WTm = true) h (fun c => ⟨rfl, six (P := fun t => inV (wndV t) WTm = true) c (by decide +kernel) (by decide +kernel) (by decide +kernel) (by decide +kernel) (by decide +kernel) (by decide +kernel)⟩) (by decide +kernel)
theorem wnd_inside7 {t : Nat} (h : t < 7) : decide (wndV t = .str "inside") = decide (t = 6) :=
  seven (P := fun t => decide (wndV t = .str "inside") = decide (t = 6)) h (fun c => (wnd_inside c).trans (decide_eq_false (by omega)).symm) (by decide +kernel)
def momFs (t : Nat) (wi : Bool) (fm : Str) (z : Bool) : List (Str × V) := [(("which" : Str), wndV t), (("within" : Str), .bl wi), (("form" : Str), .str fm), (("ends" : Str), endsV z)]
def IsMom (H : Hp) (a C : Addr) (t : Nat) (wi : Bool) (fm : Str) (z : Bool) : Prop := ∃ dx : Addr, H a = some (.ins C dx (momFs t wi fm z))
theorem IsMom.same {H H' : Hp} {a C : Addr} {t : Nat} {wi : Bool} {fm : Str} {z : Bool} (h : IsMom H a C t wi fm z) (s : Same H H') : IsMom H' a C t wi fm z := by
  obtain ⟨dx, h1⟩ := h
  exact ⟨dx, s _ _ h1⟩
theorem mom_which (t : Nat) (wi : Bool) (fm : Str) (z : Bool) : List.lookup ("which" : Str) (momFs t wi fm z) = some (wndV t) := by simp [momFs, List.lookup]
theorem mom_within (t : Nat) (wi : Bool) (fm : Str) (z : Bool) : List.lookup ("within" : Str) (momFs t wi fm z) = some (.bl wi) := by
  have h1 : (("within" : Str) == ("which" : Str)) = false := by decide +kernel
  simp [momFs, List.lookup, h1]
theorem mom_form (t : Nat) (wi : Bool) (fm : Str) (z : Bool) : List.lookup ("form" : Str) (momFs t wi fm z) = some (.str fm) := by
  have h1 : (("form" : Str) == ("which" : Str)) = false := by decide +kernel
  have h2 : (("form" : Str) == ("within" : Str)) = false := by decide +kernel
  simp [momFs, List.lookup, h1, h2]
theorem mom_ends (t : Nat) (wi : Bool) (fm : Str) (z : Bool) : List.lookup ("ends" : Str) (momFs t wi fm z) = some (endsV z) := by
  have h1 : (("ends" : Str) == ("which" : Str)) = false := by decide +kernel
  have h2 : (("ends" : Str) == ("within" : Str)) = false := by decide +kernel
  have h3 : (("ends" : Str) == ("form" : Str)) = false := by decide +kernel
  simp [momFs, List.lookup, h1, h2, h3]
theorem mom_wanted (t : Nat) (wi : Bool) (fm : Str) (z : Bool) : List.lookup ("wanted" : Str) (momFs t wi fm z) = none := by
  have h1 : (("wanted" : Str) == ("which" : Str)) = false := by decide +kernel
  have h2 : (("wanted" : Str) == ("within" : Str)) = false := by decide +kernel
  have h3 : (("wanted" : Str) == ("form" : Str)) = false := by decide +kernel
  have h4 : (("wanted" : Str) == ("ends" : Str)) = false := by decide +kernel
  simp [momFs, List.lookup, h1, h2, h3, h4]
theorem mom_put (t : Nat) (wi : Bool) (fm : Str) (z : Bool) : putF "ends" (endsV z) (putF "form" (.str fm) (putF "within" (.bl wi) (putF "which" (wndV t) []))) = momFs t wi fm z := by
  have h1 : ¬ (("which" : Str) = ("within" : Str)) := by decide +kernel
  have h2 : ¬ (("which" : Str) = ("form" : Str)) := by decide +kernel
  have h3 : ¬ (("within" : Str) = ("form" : Str)) := by decide +kernel
  have h4 : ¬ (("which" : Str) = ("ends" : Str)) := by decide +kernel
  have h5 : ¬ (("within" : Str) = ("ends" : Str)) := by decide +kernel
  have h6 : ¬ (("form" : Str) = ("ends" : Str)) := by decide +kernel
  simp [putF, momFs, h1, h2, h3, h4, h5, h6]
structure MomC (K : PySem.W.Frag) (C : Addr) : Prop where
  cl : Cls K C
  nH : NoAttr K C "which"
  nW : NoAttr K C "within"
  nF : NoAttr K C "form"
  nE : NoAttr K C "ends"
/-- a class with a keyword-only part, made with all of it, with its last word alone, or with none of it -/
structure RdyMo (P : Program) (w : World) (K : PySem.W.Frag) (mg : Str → Option Value) (bh : Heap) (x : Str) (C : Addr) (k : Nat) (ps : List Str) (dvs : List V) (ks : List Str) (ms : List V) (sp : Sp) (f : Addr) (fd : FuncData) : Prop where
  ok : FnOk P w K mg bh CX0 k f fd ps sp
  mkr : Mk K C f
  gl : mg x = some (.ref C)
  bd1 : ∃ ds, Vals dvs ds ∧ Binds K fd ps ds
  kb : ∃ g, KBn K fd ps 2 ks g (fun vs zs => vs ++ zs)
  kb1 : ∃ g, KBn K fd ps 2 ["ends"] g (fun vs zs => vs ++ (ms ++ zs))
/-- what a Moments wants -/
def wtdT (t : Nat) (z : Bool) (ps : List Pr) (m : Int) : Int := wndB t (hldN z ps m) ps.length
def inW (wi z : Bool) (w : Pr) (m : Int) : Int := if wi then hldN z [w] m else 1
/-- len, the written part named (within a comprehension) -/
theorem call_lenK {X : Cx} {K : PySem.W.Frag} (h : X.K = K := by rfl) : CallR X (.builtin "len") (fun xs H Q => ∃ p ys, xs = [V.ref p] ∧ Sq K H p ys ∧ Q (.int ys.length) H) := h ▸ call_len_seq
theorem zipW (g h : Int → Int) : ∀ ms : List Int, List.zipWith (· * ·) (ms.map g) (ms.map h) = ms.map fun m => g m * h m
  | [] => rfl
  | m :: r => by simp [zipW g h r]
theorem hld1 (z : Bool) (w : Pr) (m : Int) : hldN z [w] m = if hldB z w m then 1 else 0 := by
  unfold hldN
  by_cases c : hldB z w m = true
  · simp [List.filter, c]
  · simp [List.filter, c]
theorem op_notInK {X : Cx} {K : PySem.W.Frag} (h : X.K = K := by rfl) : OpR X (compareOp .NotIn) (rIn K true) := h ▸ op_notIn_seq
/-- the law's own table of times -/
def rowsT (b0 b1 b2 b3 b4 : Bool) : List (Key × V) := [(Sum.inr ("some" : Str), .bl b0), (Sum.inr ("none" : Str), .bl b1), (Sum.inr ("all" : Str), .bl b2), (Sum.inr ("one" : Str), .bl b3), (Sum.inr ("two" : Str), .bl b4)]
theorem merge_rowsT (b0 b1 b2 b3 b4 : Bool) : mergeK [] (rowsT b0 b1 b2 b3 b4) = rowsT b0 b1 b2 b3 b4 := by cases b0 <;> cases b1 <;> cases b2 <;> cases b3 <;> cases b4 <;> decide +kernel
theorem val_rowsT {t : Nat} (h : t < 5) (b0 b1 b2 b3 b4 : Bool) : valV (rowsT b0 b1 b2 b3 b4) (Sum.inr (wndS t)) = some (.bl (if t = 0 then b0 else if t = 1 then b1 else if t = 2 then b2 else if t = 3 then b3 else b4)) := by
  have : t = 0 ∨ t = 1 ∨ t = 2 ∨ t = 3 ∨ t = 4 := by omega
  rcases this with rfl | rfl | rfl | rfl | rfl <;> cases b0 <;> cases b1 <;> cases b2 <;> cases b3 <;> cases b4 <;> decide +kernel
theorem sqK_kp {K : PySem.W.Frag} {H H' : Hp} {L a : Addr} {xs : List V} (k : Kp L H H') (c : a ≠ L) : SqK K H H' a xs := by
  refine ⟨fun h => ?_, fun h => ?_⟩
  · rcases h with (h | ⟨o, h⟩) | h
    · exact .inl (.inl (k _ _ c h))
    · exact .inl (.inr ⟨o, k _ _ c h⟩)
    · exact .inr h
  · rcases h with (h | ⟨o, h⟩) | h
    · exact .inl (.inl (k _ _ c h))
    · exact .inl (.inr ⟨o, k _ _ c h⟩)
    · exact .inr h
theorem flat_ints (ns : List Int) : (ns.map V.int).all flatV = true := by
  rw [List.all_map]
  exact List.all_eq_true.mpr fun _ _ => rfl
/-! ### a list that is kept sorted by insertion -/
theorem op_leTK {X : Cx} {K : PySem.W.Frag} (hu : X.A.units < cLine) (h : X.K = K := by rfl) : OpR X (compareOp .LtE) (rLeT K) := h ▸ op_leT hu
theorem lex2 (a b c d : Int) : Ob.lexAt (fun j => decide ([a, b].getD j 0 = [c, d].getD j 0)) (fun j => decide ([a, b].getD j 0 ≤ [c, d].getD j 0)) (decide ([a, b].length ≤ [c, d].length)) 0 (min [a, b].length [c, d].length) = decide (ple (a, b) (c, d)) := by
  show Ob.lexAt _ _ _ 0 2 = _
  unfold Ob.lexAt Ob.lexAt Ob.lexAt
  unfold ple
  simp
  by_cases h1 : a = c
  · by_cases h2 : b = d
    · simp [h1, h2]
    · simp [h1, h2]
  · simp [h1]
    omega
def cntL {α : Type} (κ : α → Pr) (l : List α) (k : Pr) : Nat := (l.filter fun x => decide (ple (κ x) k)).length
theorem ins_srt {α : Type} (κ : α → Pr) (e : α) : ∀ l : List α, l.Pairwise (fun x y => ple (κ x) (κ y)) → (l.take (cntL κ l (κ e)) ++ [e] ++ l.drop (cntL κ l (κ e))).Pairwise (fun x y => ple (κ x) (κ y))
  | [], _ => by simp [cntL]
  | x :: r, h => by
    obtain ⟨hx, hr⟩ := List.pairwise_cons.mp h
    by_cases c : ple (κ x) (κ e)
    · have e1 : cntL κ (x :: r) (κ e) = cntL κ r (κ e) + 1 := by
        unfold cntL
        rw [List.filter_cons_of_pos (by simpa using c), List.length_cons]
      rw [e1, List.take_succ_cons, List.drop_succ_cons, List.cons_append, List.cons_append]
      refine List.pairwise_cons.mpr ⟨fun y hy => ?_, ins_srt κ e r hr⟩
      rcases List.mem_append.mp hy with hy | hy
      · rcases List.mem_append.mp hy with hy | hy
        · exact hx y (List.mem_of_mem_take hy)
        · rw [List.mem_singleton.mp hy]; exact c
      · exact hx y (List.mem_of_mem_drop hy)
    · have e1 : cntL κ (x :: r) (κ e) = 0 := by
        unfold cntL
        rw [List.filter_eq_nil_iff.mpr]; rfl
        intro y hy
        rw [decide_eq_true_eq]
        rcases List.mem_cons.mp hy with rfl | hy
        · exact c
        · exact fun z => c (ple_trans (hx y hy) z)
      rw [e1, List.take_zero, List.drop_zero, List.nil_append, List.singleton_append]
      have ex : ple (κ e) (κ x) := by unfold ple at *; omega
      refine List.pairwise_cons.mpr ⟨fun y hy => ?_, h⟩
      rcases List.mem_cons.mp hy with rfl | hy
      · exact ex
      · exact ple_trans ex (hx y hy)
theorem cntL_le {α : Type} (κ : α → Pr) (l : List α) (k : Pr) : cntL κ l k ≤ l.length := List.length_filter_le ..
def lateK : List (Key × V) := [(Sum.inr ("at" : Str), .str "none"), (Sum.inr ("at in" : Str), .str "out"), (Sum.inr ("at out" : Str), .str "in")]
theorem merge_late : mergeK [] lateK = lateK := by decide +kernel
theorem late_of {w : Str} (h : w = "at" ∨ w = "at in" ∨ w = "at out") : ∃ lt : Str, valV lateK (Sum.inr w) = some (.str lt) := by
  rcases h with rfl | rfl | rfl
  · exact ⟨"none", by decide +kernel⟩
  · exact ⟨"out", by decide +kernel⟩
  · exact ⟨"in", by decide +kernel⟩
theorem cntL_snoc {α : Type} (κ : α → Pr) (l : List α) (x : α) (k : Pr) : cntL κ (l ++ [x]) k = cntL κ l k + (if decide (ple (κ x) k) = true then 1 else 0) := by
  unfold cntL
  rw [List.filter_append, List.length_append]
  by_cases c : ple (κ x) k
  · simp [List.filter, c]
  · simp [List.filter, c]
theorem lastE_snoc (l : List Evt) (e : Evt) (m : Int) : lastE ((l ++ [e]).filter fun e => decide (e.2 ≤ m)) = if decide (e.2 ≤ m) = true then e.1 else lastE (l.filter fun e => decide (e.2 ≤ m)) := by
  rw [List.filter_append]
  by_cases c : e.2 ≤ m
  · simp [List.filter, c, lastE]
  · simp [List.filter, c]
theorem insE_01 (es : List Evt) (m : Int) : insE es m = 0 ∨ insE es m = 1 := by
  unfold insE
  split
  · exact .inr rfl
  · exact .inl rfl
theorem reprI {u : Int} (h : u = 0 ∨ u = 1) : (PyData.int u).showable = true ∧ (PyData.int u).hasDict = false ∧ (PyData.int u).depth ≤ 64 ∧ (PyData.int u).shown.length ≤ sizeLine := by
  rcases h with rfl | rfl <;> decide +kernel
def evIn (i : Nat) : Str := if i = 0 then "at" else if i = 1 then "at in" else "at out"
theorem mem_ord {j : Nat} {x : V} (h : ([.str "at", .str "at in", .str "at out"] : List V)[j]? = some x) : ∃ w : Str, x = .str w ∧ (w = "at" ∨ w = "at in" ∨ w = "at out") := by
  match j, h with
  | 0, h => exact ⟨_, (Option.some.inj h).symm, .inl rfl⟩
  | 1, h => exact ⟨_, (Option.some.inj h).symm, .inr (.inl rfl)⟩
  | 2, h => exact ⟨_, (Option.some.inj h).symm, .inr (.inr rfl)⟩
theorem canLayEs : ∀ ps : List Evt, PyData.canLayAll0 (ps.map evD) = true
  | [] => rfl
  | p :: ps => by
    show (PyData.canLay0 (evD p) && PyData.canLayAll0 (ps.map evD)) = true
    rw [canLayEs ps]
    obtain ⟨b, i⟩ := p
    cases b <;> simp [evD, PyData.canLay0, PyData.canLayAll0] <;> decide +kernel
theorem depthEs : ∀ ps : List Evt, PyData.depthAll (ps.map evD) ≤ 1
  | [] => Nat.zero_le _
  | p :: ps => by
    have := depthEs ps
    show max (PyData.depth (evD p)) (PyData.depthAll (ps.map evD)) ≤ 1
    exact Nat.max_le.mpr ⟨by show PyData.depth (.tuple [.str _, .int p.2]) ≤ 1; simp [PyData.depth, PyData.depthAll], this⟩
theorem shapedEs (ps : List Evt) : SeqAt.shaped (.list (ps.map evD)) = true := by
  have h1 : PyData.canLay0 (.list (ps.map evD)) = true := canLayEs ps
  have h2 : PyData.depth (.list (ps.map evD)) ≤ 64 := by
    have := depthEs ps
    simp only [PyData.depth]; omega
  unfold SeqAt.shaped
  rw [h1, decide_eq_true h2]; rfl
theorem eqvEs : ∀ ps : List Evt, PyData.eqvAll (ps.map evD) (ps.map evD) = true
  | [] => rfl
  | p :: ps => by
    show (PyData.eqv (evD p) (evD p) && PyData.eqvAll (ps.map evD) (ps.map evD)) = true
    rw [eqvEs ps]
    obtain ⟨b, i⟩ := p
    show (((if b = true then ("in" : Str) else "out") == (if b = true then ("in" : Str) else "out")) && ((i == i) && true) && true) = true
    simp
theorem eqv_evs (ps : List Evt) : (!PyData.eqv (.list (ps.map evD)) (.list (ps.map evD))) = false := by
  rw [show PyData.eqv (.list (ps.map evD)) (.list (ps.map evD)) = true from eqvEs ps]; rfl
end Spk

namespace Spk
open PySem PySem.Spec PyProof.Rows L2
/-- a def that wants no repr under way, ready to be called -/
structure RdyG (P : Program) (w : World) (K : PySem.W.Frag) (mg : Str → Option Value) (bh : Heap) (x : Str) (k : Nat) (ps : List Str) (sp : Sp) (f : Addr) (fd : FuncData) : Prop where
  ok : FnG P w K mg bh k f fd ps sp
  gl : mg x = some (.ref f)
  kp : PySem.W.keepIn K (.ref f) = true
  bd : Binds K fd ps []
section
variable {X : Cx} {x : Str} {k j : Nat} {ps : List Str} {sp : Sp} {f : Addr} {fd : FuncData} {p pos : Pos} {e : Expr} {es : List Expr} {t : TA}
theorem pe_rdyG (R : RdyG X.prog X.w X.K X.mg X.base x k ps sp f fd) (gd : X.A.guards = some []) (rm : Room j X.A) (hj : k ≤ j) (hg : Gl X x) (ha : PA X (e :: es) t) (hdb : (x == ("__debug__" : Str)) = false := by decide)
    (he : starEach (e :: es) X.env = (false, eval e X.env) :: starEach es X.env := by rfl) (hpl : (backTo pos (starEach es X.env)).any (·.1) = false := by rfl) :
    PE X (.Call (.Name x p) (e :: es) [] pos) (tCall sp [] E0 t) := pe_callG R.ok gd (rm.mono hj) hg R.gl R.kp R.bd .nil ha hdb he hpl
end
/-- tuple(xs), the written part named (within a comprehension) -/
theorem call_tuple_ofK {X : Cx} {K : PySem.W.Frag} (h : X.K = K := by rfl) : CallR X (.type "tuple") (fun xs H Q => ∃ p ys, xs = [V.ref p] ∧ ((SqL K H p ys ∧ ∀ l, H l = none → Q (.ref l) (upd H l (.tup ys))) ∨ (SqT K H p ys ∧ Q (.ref p) H))) := h ▸ call_tuple_of
end Spk
namespace Spk
open PySem PySem.Spec PyProof.Rows L2
/-! ### lists of ints as data -/
theorem dpIs {K : PySem.W.Frag} {H : Hp} : ∀ ns : List Int, DpAll K H (ns.map V.int) (ns.map PyData.int)
  | [] => .nil
  | n :: ns => .cons (.int n) (dpIs ns)
theorem canLayIs : ∀ ns : List Int, PyData.canLayAll0 (ns.map PyData.int) = true
  | [] => rfl
  | n :: ns => by
    show (PyData.canLay0 (.int n) && PyData.canLayAll0 (ns.map PyData.int)) = true
    rw [canLayIs ns]; rfl
theorem depthIs : ∀ ns : List Int, PyData.depthAll (ns.map PyData.int) ≤ 1
  | [] => Nat.zero_le _
  | n :: ns => by
    have := depthIs ns
    show max (PyData.depth (.int n)) (PyData.depthAll (ns.map PyData.int)) ≤ 1
    exact Nat.max_le.mpr ⟨by simp [PyData.depth], this⟩
theorem shapedIs (ns : List Int) : SeqAt.shaped (.list (ns.map PyData.int)) = true := by
  have h1 : PyData.canLay0 (.list (ns.map PyData.int)) = true := canLayIs ns
  have h2 : PyData.depth (.list (ns.map PyData.int)) ≤ 64 := by
    have := depthIs ns
    simp only [PyData.depth]; omega
  unfold SeqAt.shaped
  rw [h1, decide_eq_true h2]; rfl
theorem eqvIs : ∀ ns : List Int, PyData.eqvAll (ns.map PyData.int) (ns.map PyData.int) = true
  | [] => rfl
  | n :: ns => by
    show (PyData.eqv (.int n) (.int n) && PyData.eqvAll (ns.map PyData.int) (ns.map PyData.int)) = true
    rw [eqvIs ns]
    show ((n == n) && true) = true
    simp
theorem eqv_is (ns : List Int) : (!PyData.eqv (.list (ns.map PyData.int)) (.list (ns.map PyData.int))) = false := by
  rw [show PyData.eqv (.list (ns.map PyData.int)) (.list (ns.map PyData.int)) = true from eqvIs ns]; rfl
/-- what a Moments wants, within the window or not -/
def wntI (wi z : Bool) (t : Nat) (ps : List Pr) (w : Pr) (m : Int) : Int := if wi then wtdT t z ps m * hldN z [w] m else wtdT t z ps m
end Spk
namespace Spk
open PySem PySem.Spec PyProof.Rows L2
theorem atI_end {α : Type} {xs : List α} (h : xs ≠ []) : ∃ v, v ∈ xs ∧ atI xs (-1) = some v := by
  refine ⟨xs.getLast h, List.getLast_mem h, ?_⟩
  have e := atI_last xs.dropLast (xs.getLast h)
  rw [List.dropLast_concat_getLast h] at e
  exact e
theorem atI_endI {ms : List Int} (h : ms ≠ []) : ∃ m, m ∈ ms ∧ atI (ms.map V.int) (-1) = some (.int m) := by
  obtain ⟨v, hv, e⟩ := atI_end (xs := ms.map V.int) (fun z => h (List.map_eq_nil_iff.mp z))
  obtain ⟨m, hm, rfl⟩ := List.mem_map.mp hv
  exact ⟨m, hm, e⟩
theorem mem_fm {j : Nat} {x : V} (h : ([.str "one", .str "full", .str "any"] : List V)[j]? = some x) : ∃ fm : Str, x = .str fm ∧ inV (.str fm) WFm = true ∧ decide (V.str fm = .str "cut") = false := by
  match j, h with
  | 0, h => exact ⟨_, (Option.some.inj h).symm, by decide +kernel, by decide +kernel⟩
  | 1, h => exact ⟨_, (Option.some.inj h).symm, by decide +kernel, by decide +kernel⟩
  | 2, h => exact ⟨_, (Option.some.inj h).symm, by decide +kernel, by decide +kernel⟩
theorem wnt_due {wi z : Bool} {t : Nat} {ps : List Pr} {w : Pr} {m : Int} : wntI wi z t ps w m = if (wi && !hldB z w m) = true then 0 else wtdT t z ps m := by
  unfold wntI
  rw [hld1]
  cases wi <;> cases hldB z w m <;> simp
theorem wtd_nil {t : Nat} (h : t < 6) (z : Bool) (m : Int) : wtdT t z [] m = if inV (wndV t) [.str "none", .str "all"] = true then 1 else 0 := by
  show wndB t 0 0 = _
  match t, h with
  | 0, _ => decide +kernel
  | 1, _ => decide +kernel
  | 2, _ => decide +kernel
  | 3, _ => decide +kernel
  | 4, _ => decide +kernel
  | 5, _ => decide +kernel
theorem wnt_nil {t : Nat} (h : t < 6) (wi z : Bool) (w : Pr) (m : Int) : wntI wi z t [] w m = if (inV (wndV t) [.str "none", .str "all"] && (!wi || hldB z w m)) = true then 1 else 0 := by
  rw [wnt_due, wtd_nil h]
  cases wi <;> cases hldB z w m <;> cases inV (wndV t) [.str "none", .str "all"] <;> rfl
end Spk

/-! the text of spanloops_k31_times_wanted -/
namespace Spk
open PySem PySem.Spec PyProof.Rows L2
def topS (i : Nat) : Stmt := PySem.Challenge.pw_spanloops_k31_times_wanted.main.body.getD i (.Pass ⟨0, 0, 0, 0⟩)
structure Blt (mg : Str → Option Value) : Prop where
  b_abs : mg "abs" = none
  b_bool : mg "bool" = none
  b_enumerate : mg "enumerate" = none
  b_int : mg "int" = none
  b_isinstance : mg "isinstance" = none
  b_len : mg "len" = none
  b_list : mg "list" = none
  b_max : mg "max" = none
  b_min : mg "min" = none
  b_range : mg "range" = none
  b_repr : mg "repr" = none
  b_sorted : mg "sorted" = none
  b_tuple : mg "tuple" = none
  b_zip : mg "zip" = none
structure Txt (K : PySem.W.Frag) (mg : Str → Option Value) : Prop where
  g_FIRST : ∃ t, mg "FIRST" = some (.int (-10000000000000000000000000000000) t)
  g_LAST : ∃ t, mg "LAST" = some (.int (10000000000000000000000000000000) t)
  g_FAR : ∃ t, mg "FAR" = some (.int (1000000000000000000000000000000) t)
  ends : EndsT K mg
end Spk
namespace Spk
open PySem PySem.Spec PyProof.Rows L2

local macro_rules | `(tactic| walk_at "ne") => `(tactic| first | assumption | exact Ne.symm (by assumption) | exact ne_of_none (by walk_at "hp") (by assumption) | exact Ne.symm (ne_of_none (by walk_at "hp") (by assumption)))
local macro_rules | `(tactic| walk_at "hp") => `(tactic| first | assumption | exact upd_same | (refine Eq.trans (upd_ne ?_) ?_; (focus walk_at "ne"); walk_at "hp"))
local macro_rules | `(tactic| walk_at "fact") => `(tactic| first | rfl | assumption | exact SqL.hp (by walk_at "hp") | exact SqT.hp (by walk_at "hp") | walk_at "hp" | exact Or.inl (SqL.hp (by walk_at "hp")) | exact Or.inr (SqT.hp (by walk_at "hp")) | omega | decide | exact Nat.le_of_ble_eq_true rfl | exact lgDiv (by omega) (by omega) | exact Or.inl ⟨by omega, by omega⟩ | exact Or.inr ⟨by omega, by omega⟩ | exact ⟨by omega, by omega⟩ | exact ⟨by omega, by omega, by omega⟩)
local macro_rules | `(tactic| walk_at "vc1") => `(tactic| first
  | (refine And.intro ?_ ?_; (focus walk_at "fact"))
  | refine iteF ?_
  | refine iteT ?_
  | refine ite2 (fun _ => ?_) (fun _ => ?_)
  | apply Exists.intro
  | (refine Or.inl ?_; apply Exists.intro; refine And.intro rfl ?_)
  | (refine Or.inr ?_; apply Exists.intro; refine And.intro rfl ?_))
local macro_rules | `(tactic| walk_at "vc") => `(tactic| repeat' (walk_at "vc1"))
/-! is_number -/
abbrev s_is_number : Stmt := topS 13
abbrev sc_is_number_N : List Str := ["value"]
theorem sc_is_number : FnScope sc_is_number_N ["value"] (defScope s_is_number) := ⟨rfl, rfl, rfl, by decide +kernel, rfl, by decide +kernel, by decide +kernel⟩
def sp_is_number (K : PySem.W.Frag) : Sp := fun vs H Q _ => ∃ (v : V) (d : PyData), vs = [v] ∧ Dp K H v d ∧ Q (.bl (isNum d)) H
section
variable {P : Program} {w : World} {K : PySem.W.Frag} {mg : Str → Option Value} {bh : Heap}
theorem ok_is_number {f : Addr} {fd : FuncData}  (B : Blt mg) (T : Txt K mg)  (F : Fun K "is_number" "is_number" s_is_number f fd) : FnOk P w K mg bh CX0 1 f fd ["value"] (sp_is_number K) := by
  refine F.ok sc_is_number (fun vs H Q E h => ?_) (fun cdv A outer s H vs Q E hr h => ?_)
  · obtain ⟨v, d, rfl, _⟩ := h
    rfl
  · obtain ⟨v, d, rfl, dp, q⟩ := h
    refine ⟨_, (pss_one (ps_ret (pe_and (pe_callB call_isi (by rfl) B.b_isinstance (by decide +kernel) (pa_cons (pv 0) (pa_cons (pe_bltn (v := .ty "int") (by rfl) B.b_int (by decide +kernel) rfl) pa_nil))) (pe_one (pe_not (pe_callB call_isi (by rfl) B.b_isinstance (by decide +kernel) (pa_cons (pv 0) (pa_cons (pe_bltn (v := .ty "bool") (by rfl) B.b_bool (by decide +kernel) rfl) pa_nil)))))))), ?_⟩
    refine ⟨v, rfl, _, _, _, _, _, rfl, .ty _, dpTy dp, kit_ty (kitInt d), _, rfl, ?_⟩
    refine ite2 (fun c => ?_) (fun c => ?_)
    · refine ⟨v, rfl, _, _, _, _, _, rfl, .ty _, dpTy dp, kit_ty (kitBool d), _, rfl, ?_⟩
      rw [isNum_eq, c] at q
      exact q
    · rw [isNum_eq, Bool.eq_false_iff.mpr c] at q
      exact q
end
/-! is_edge -/
abbrev s_is_edge : Stmt := topS 14
abbrev sc_is_edge_N : List Str := ["value"]
theorem sc_is_edge : FnScope sc_is_edge_N ["value"] (defScope s_is_edge) := ⟨rfl, rfl, rfl, by decide +kernel, rfl, by decide +kernel, by decide +kernel⟩
def sp_is_edge (K : PySem.W.Frag) : Sp := fun vs H Q _ => ∃ (v : V) (d : PyData), vs = [v] ∧ Dp K H v d ∧ ∀ H', Same H H' → Q (.bl (isEdge d)) H'
section
variable {P : Program} {w : World} {K : PySem.W.Frag} {mg : Str → Option Value} {bh : Heap}
theorem ok_is_edge {f : Addr} {fd : FuncData} {f_is_number : Addr} {fd_is_number : FuncData} (B : Blt mg) (T : Txt K mg) (R_is_number : Rdy P w K mg bh "is_number" 1 ["value"] (sp_is_number K) f_is_number fd_is_number) (F : Fun K "is_edge" "is_edge" s_is_edge f fd) : FnOk P w K mg bh CX0 2 f fd ["value"] (sp_is_edge K) := by
  refine F.ok sc_is_edge (fun vs H Q E h => ?_) (fun cdv A outer s H vs Q E hr h => ?_)
  · obtain ⟨v, d, rfl, _⟩ := h
    rfl
  · obtain ⟨v, d, rfl, dp, q⟩ := h
    refine ⟨_, (pss_one (ps_ret (pe_and (pe_rdy R_is_number hr (by decide) (by rfl) (pa_cons (pv 0) pa_nil)) (pe_one (pe_or (pe_chain op_le op_le (pe_un un_neg (pe_globI T.g_FAR (by rfl))) (pv 0) (pe_globI T.g_FAR (by rfl))) (pe_one (pe_cmpR op_in_seq (pv 0) (pe_tup (pa_cons (pe_globI T.g_FIRST (by rfl)) (pa_cons (pe_globI T.g_LAST (by rfl)) pa_nil))) (by rfl)))))))), ?_⟩
    refine ⟨v, rfl, v, d, rfl, dp, _, rfl, ?_⟩
    refine ite2 (fun c => ?_) (fun c => ?_)
    · obtain ⟨i, rfl, rfl⟩ := int_of dp c
      · have fin : ∀ b, isEdge (.int i) = b → ∀ H', Same H H' → Q (.bl b) H' := fun b e => e ▸ q
        refine ⟨_, rfl, _, rfl, _, _, rfl, rfl, _, rfl, ?_⟩
        refine ite2 (fun c1 => ?_) (fun c1 => ?_)
        · refine ⟨_, _, rfl, rfl, _, rfl, ?_⟩
          refine ite2 (fun c2 => ?_) (fun c2 => ?_)
          · refine fin true ?_ H (Same.refl H)
            simp only [decide_eq_true_eq] at c1 c2
            simp [isEdge, edgeI, c1, c2]
          · refine ⟨_, rfl, (by show 2 ≤ sizeLine; decide), fun p hp => ?_⟩
            refine ⟨p, _, rfl, .inr (SqT.hp upd_same), rfl, rfl, ?_⟩
            refine fin _ ?_ _ (Same.new hp)
            simp only [decide_eq_true_eq] at c1 c2
            show edgeI i = inV (.int i) [.int (-10000000000000000000000000000000), .int 10000000000000000000000000000000]
            rw [inV2]
            simp [edgeI, c1, c2]
        · refine ⟨_, rfl, iteF ⟨_, rfl, (by show 2 ≤ sizeLine; decide), fun p hp => ?_⟩⟩
          refine ⟨p, _, rfl, .inr (SqT.hp upd_same), rfl, rfl, ?_⟩
          refine fin _ ?_ _ (Same.new hp)
          simp only [decide_eq_true_eq] at c1
          show edgeI i = inV (.int i) [.int (-10000000000000000000000000000000), .int 10000000000000000000000000000000]
          rw [inV2]
          simp [edgeI, c1]
    · rw [isEdge_not c] at q
      exact q H (Same.refl H)
end
/-! is_pair -/
abbrev s_is_pair : Stmt := topS 16
abbrev sc_is_pair_N : List Str := ["value"]
theorem sc_is_pair : FnScope sc_is_pair_N ["value"] (defScope s_is_pair) := ⟨rfl, rfl, rfl, by decide +kernel, rfl, by decide +kernel, by decide +kernel⟩
def sp_is_pair (K : PySem.W.Frag) : Sp := fun vs H Q _ => ∃ (v : V) (d : PyData), vs = [v] ∧ Dp K H v d ∧ ∀ H', Same H H' → Q (.bl (isPair d)) H'
section
variable {P : Program} {w : World} {K : PySem.W.Frag} {mg : Str → Option Value} {bh : Heap}
theorem ok_is_pair {f : Addr} {fd : FuncData} {f_is_edge : Addr} {fd_is_edge : FuncData} (B : Blt mg) (T : Txt K mg) (R_is_edge : Rdy P w K mg bh "is_edge" 2 ["value"] (sp_is_edge K) f_is_edge fd_is_edge) (F : Fun K "is_pair" "is_pair" s_is_pair f fd) : FnOk P w K mg bh CX0 3 f fd ["value"] (sp_is_pair K) := by
  refine F.ok sc_is_pair (fun vs H Q E h => ?_) (fun cdv A outer s H vs Q E hr h => ?_)
  · obtain ⟨v, d, rfl, _⟩ := h
    rfl
  · obtain ⟨v, d, rfl, dp, q⟩ := h
    refine ⟨_, (pss_one (ps_ret (pe_and (pe_callB call_isi (by rfl) B.b_isinstance (by decide +kernel) (pa_cons (pv 0) (pa_cons (pe_bltn (v := .ty "tuple") (by rfl) B.b_tuple (by decide +kernel) rfl) pa_nil))) (pe_and (pe_cmpR op_eq (pe_callB call_len_seq (by rfl) B.b_len (by decide +kernel) (pa_cons (pv 0) pa_nil)) pe_int (nomark _)) (pe_and (pe_rdy R_is_edge hr (by decide) (by rfl) (pa_cons (pe_ix ix_tup (pv 0) pe_int (fun _ _ => rfl)) pa_nil)) (pe_one (pe_rdy R_is_edge hr (by decide) (by rfl) (pa_cons (pe_ix ix_tup (pv 0) pe_int (fun _ _ => rfl)) pa_nil)))))))), ?_⟩
    refine ⟨v, rfl, _, _, _, _, _, rfl, .ty _, dpTy dp, kit_ty (kitTup d), _, rfl, ?_⟩
    refine ite2 (fun c => ?_) (fun c => ?_)
    · obtain ⟨a, xs, ds, rfl, rfl, sq, da⟩ := tup_of dp c
      refine ⟨_, rfl, a, xs, rfl, .inr sq, rfl, _, rfl, ?_⟩
      refine ite2 (fun c1 => ?_) (fun c1 => ?_)
      · have l2 : (xs.length : Int) = 2 := V.int.inj (of_decide_eq_true c1)
        obtain ⟨x, y, d1, d2, rfl, rfl, h1, h2⟩ := dpAll2 da (by omega)
        refine ⟨_, rfl, a, _, 0, x, rfl, rfl, sq, rfl, x, d1, rfl, h1, fun H1 s1 => ?_⟩
        refine ⟨_, rfl, ?_⟩
        refine ite2 (fun c2 => ?_) (fun c2 => ?_)
        · refine ⟨_, rfl, a, _, 1, y, rfl, rfl, sameT s1 sq, rfl, y, d2, rfl, sameD s1 d2 h2, fun H2 s2 => ?_⟩
          have z := q H2 (s1.trans s2)
          have e : isPair (.tuple [d1, d2]) = isEdge d2 := by show (isEdge d1 && isEdge d2) = _; rw [c2, Bool.true_and]
          rw [e] at z
          exact z
        · have z := q H1 s1
          have e : isPair (.tuple [d1, d2]) = false := by show (isEdge d1 && isEdge d2) = _; rw [Bool.eq_false_iff.mpr c2, Bool.false_and]
          rw [e] at z
          exact z
      · have ne : ds.length ≠ 2 := fun z => c1 (decide_eq_true (by rw [dpAll_len da, z]; rfl))
        rw [isPair_len ne] at q
        exact q H (Same.refl H)
    · rw [isPair_not c] at q
      exact q H (Same.refl H)
end
/-! is_stretch -/
abbrev s_is_stretch : Stmt := topS 17
abbrev sc_is_stretch_N : List Str := ["value"]
theorem sc_is_stretch : FnScope sc_is_stretch_N ["value"] (defScope s_is_stretch) := ⟨rfl, rfl, rfl, by decide +kernel, rfl, by decide +kernel, by decide +kernel⟩
def sp_is_stretch (K : PySem.W.Frag) : Sp := fun vs H Q _ => ∃ (v : V) (d : PyData), vs = [v] ∧ Dp K H v d ∧ ∀ H', Same H H' → Q (.bl (isStr d)) H'
section
variable {P : Program} {w : World} {K : PySem.W.Frag} {mg : Str → Option Value} {bh : Heap}
theorem ok_is_stretch {f : Addr} {fd : FuncData} {f_is_pair : Addr} {fd_is_pair : FuncData} (B : Blt mg) (T : Txt K mg) (R_is_pair : Rdy P w K mg bh "is_pair" 3 ["value"] (sp_is_pair K) f_is_pair fd_is_pair) (F : Fun K "is_stretch" "is_stretch" s_is_stretch f fd) : FnOk P w K mg bh CX0 4 f fd ["value"] (sp_is_stretch K) := by
  refine F.ok sc_is_stretch (fun vs H Q E h => ?_) (fun cdv A outer s H vs Q E hr h => ?_)
  · obtain ⟨v, d, rfl, _⟩ := h
    rfl
  · obtain ⟨v, d, rfl, dp, q⟩ := h
    refine ⟨_, (pss_one (ps_ret (pe_and (pe_rdy R_is_pair hr (by decide) (by rfl) (pa_cons (pv 0) pa_nil)) (pe_and (pe_cmpR op_le (pe_ix ix_tup (pv 0) pe_int (fun _ _ => rfl)) (pe_ix ix_tup (pv 0) pe_int (fun _ _ => rfl)) (nomark _)) (pe_and (pe_cmpR op_lt (pe_ix ix_tup (pv 0) pe_int (fun _ _ => rfl)) (pe_globI T.g_LAST (by rfl)) (nomark _)) (pe_one (pe_cmpR op_gt (pe_ix ix_tup (pv 0) pe_int (fun _ _ => rfl)) (pe_globI T.g_FIRST (by rfl)) (nomark _)))))))), ?_⟩
    refine ⟨v, rfl, v, d, rfl, dp, fun H1 s1 => ?_⟩
    refine ⟨_, rfl, ?_⟩
    refine ite2 (fun c => ?_) (fun c => ?_)
    · obtain ⟨a, b, rfl, ea, eb⟩ := pair_of c
      obtain ⟨p, rfl, sq⟩ := dpPr (sameD s1 _ dp)
      have fin : ∀ z, strP (a, b) = z → Q (.bl z) H1 := fun z e => e ▸ q H1 s1
      refine ⟨_, rfl, p, _, 0, _, rfl, rfl, sq, rfl, _, rfl, p, _, 1, _, rfl, rfl, sq, rfl, _, _, rfl, rfl, _, rfl, ?_⟩
      refine ite2 (fun c1 => ?_) (fun c1 => ?_)
      · refine ⟨_, rfl, p, _, 0, _, rfl, rfl, sq, rfl, _, _, rfl, rfl, _, rfl, ?_⟩
        refine ite2 (fun c2 => ?_) (fun c2 => ?_)
        · refine ⟨_, rfl, p, _, 1, _, rfl, rfl, sq, rfl, _, _, rfl, rfl, fin _ ?_⟩
          unfold strP; rw [ea, eb, c1, c2]; rfl
        · refine fin _ ?_
          unfold strP; rw [ea, eb, c1, Bool.eq_false_iff.mpr c2]; rfl
      · refine fin _ ?_
        unfold strP; rw [ea, eb, Bool.eq_false_iff.mpr c1]; rfl
    · rw [isStr_not c] at q
      exact q H1 s1
end
/-! is_window -/
abbrev s_is_window : Stmt := topS 18
abbrev sc_is_window_N : List Str := ["value"]
theorem sc_is_window : FnScope sc_is_window_N ["value"] (defScope s_is_window) := ⟨rfl, rfl, rfl, by decide +kernel, rfl, by decide +kernel, by decide +kernel⟩
def sp_is_window (K : PySem.W.Frag) : Sp := fun vs H Q _ => ∃ (t : Addr) (w : Pr), vs = [.ref t] ∧ SqT K H t [.int w.1, .int w.2] ∧ winP w = true ∧ ∀ H', Same H H' → Q (.bl true) H'
section
variable {P : Program} {w : World} {K : PySem.W.Frag} {mg : Str → Option Value} {bh : Heap}
theorem ok_is_window {f : Addr} {fd : FuncData} {f_is_pair : Addr} {fd_is_pair : FuncData} (B : Blt mg) (T : Txt K mg) (R_is_pair : Rdy P w K mg bh "is_pair" 3 ["value"] (sp_is_pair K) f_is_pair fd_is_pair) (F : Fun K "is_window" "is_window" s_is_window f fd) : FnOk P w K mg bh CX0 4 f fd ["value"] (sp_is_window K) := by
  refine F.ok sc_is_window (fun vs H Q E h => ?_) (fun cdv A outer s H vs Q E hr h => ?_)
  · obtain ⟨t, w, rfl, _⟩ := h
    rfl
  · obtain ⟨t, w, rfl, sq, hw, q⟩ := h
    refine ⟨_, (pss_one (ps_ret (pe_and (pe_rdy R_is_pair hr (by decide) (by rfl) (pa_cons (pv 0) pa_nil)) (pe_one (pe_cmpR op_lt (pe_ix ix_tup (pv 0) pe_int (fun _ _ => rfl)) (pe_ix ix_tup (pv 0) pe_int (fun _ _ => rfl)) (nomark _)))))), ?_⟩
    refine ⟨_, rfl, .ref t, prD w, rfl, .tup sq (.cons (.int _) (.cons (.int _) .nil)), fun H1 s1 => ?_⟩
    rw [winP_pair hw]
    refine ⟨_, rfl, iteT ?_⟩
    refine ⟨_, rfl, t, _, 0, _, rfl, rfl, sameT s1 sq, rfl, _, rfl, t, _, 1, _, rfl, rfl, sameT s1 sq, rfl, _, _, rfl, rfl, ?_⟩
    have e := q _ s1
    rw [← decide_eq_true (winP_lt hw)] at e
    exact e
end
/-! check_ends -/
abbrev s_check_ends : Stmt := topS 20
abbrev sc_check_ends_N : List Str := ["ends"]
theorem sc_check_ends : FnScope sc_check_ends_N ["ends"] (defScope s_check_ends) := ⟨rfl, rfl, rfl, by decide +kernel, rfl, by decide +kernel, by decide +kernel⟩
def sp_check_ends (K : PySem.W.Frag) : Sp := fun vs H Q _ => ∃ z : Bool, vs = [endsV z] ∧ ∀ H', Same H H' → Q .non H'
section
variable {P : Program} {w : World} {K : PySem.W.Frag} {mg : Str → Option Value} {bh : Heap}
theorem ok_check_ends {f : Addr} {fd : FuncData}  (B : Blt mg) (T : Txt K mg)  (F : Fun K "check_ends" "check_ends" s_check_ends f fd) : FnOk P w K mg bh CX0 1 f fd ["ends"] (sp_check_ends K) := by
  refine F.ok sc_check_ends (fun vs H Q E h => ?_) (fun cdv A outer s H vs Q E hr h => ?_)
  · obtain ⟨z, rfl, _⟩ := h
    rfl
  · obtain ⟨z, rfl, q⟩ := h
    refine ⟨_, (pss_one (ps_if (pt_cmpR op_notIn_seq (pv 0) (pe_tup (pa_cons (pe_half T.ends (by rfl)) (pa_cons (pe_shut T.ends (by rfl)) pa_nil))) (by rfl))
      (pss_one ps_never)
      pss_nil)), ?_⟩
    refine ⟨_, rfl, (by show 2 ≤ sizeLine; decide), fun p hp => ?_⟩
    refine ⟨p, _, rfl, .inr (SqT.hp upd_same), (by cases z <;> rfl), rfl, _, rfl, ?_⟩
    have e : (if true = true then !inV (endsV z) [.str "half", .str "shut"] else inV (endsV z) [.str "half", .str "shut"]) = false := by cases z <;> decide +kernel
    rw [e]
    exact iteF (q _ (Same.new hp))
end
/-! check_stretches -/
abbrev s_check_stretches : Stmt := topS 21
abbrev sc_check_stretches_N : List Str := ["spans", "index", "span"]
theorem sc_check_stretches : FnScope sc_check_stretches_N ["spans"] (defScope s_check_stretches) := ⟨rfl, rfl, rfl, by decide +kernel, rfl, by decide +kernel, by decide +kernel⟩
def sp_check_stretches (K : PySem.W.Frag) : Sp := fun vs H Q _ => ∃ (a : Addr) (xs : List V) (ds : List PyData), vs = [.ref a] ∧ Sq K H a xs ∧ DpAll K H xs ds ∧ (∀ d ∈ ds, isStr d = true) ∧ ∀ H', Same H H' → Q .non H'
section
variable {P : Program} {w : World} {K : PySem.W.Frag} {mg : Str → Option Value} {bh : Heap}
theorem ok_check_stretches {f : Addr} {fd : FuncData} {f_is_stretch : Addr} {fd_is_stretch : FuncData} (B : Blt mg) (T : Txt K mg) (R_is_stretch : Rdy P w K mg bh "is_stretch" 4 ["value"] (sp_is_stretch K) f_is_stretch fd_is_stretch) (F : Fun K "check_stretches" "check_stretches" s_check_stretches f fd) : FnOk P w K mg bh CX0 5 f fd ["spans"] (sp_check_stretches K) := by
  refine F.ok sc_check_stretches (fun vs H Q E h => ?_) (fun cdv A outer s H vs Q E hr h => ?_)
  · obtain ⟨a, xs, ds, rfl, _⟩ := h
    rfl
  · obtain ⟨a, xs, ds, rfl, sq, da, hd, q⟩ := h
    refine ⟨_, (pss_one (ps_for PassesOwn.never rfl (pi_en (by rfl) B.b_enumerate (pa_cons (pv 0) pa_nil)) (pg_tup (by rfl) (pgs_cons (pg_name (i := 1) sc_check_stretches.nd rfl (Or.inl rfl)) (pgs_cons (pg_name (i := 2) sc_check_stretches.nd rfl (Or.inl rfl)) pgs_nil)))
      (pss_one (ps_if (pt_not (pt_val (pe_rdy R_is_stretch hr (by decide) (by rfl) (pa_cons (pv 2) pa_nil))))
      (pss_one ps_never)
      pss_nil)))), ?_⟩
    refine ⟨_, rfl, a, xs, rfl, sq, fun J wk => ?_⟩
    refine for_it wk (fun i σ H' => (∃ y z, σ = [some (.ref a), y, z]) ∧ Same H H') ⟨⟨none, none, rfl⟩, Same.refl H⟩ (fun i σ H' _ h => sameK h.2) ?_ ?_
    · rintro i x σ H1 H2 hi ⟨⟨y, z, rfl⟩, s1⟩ ⟨T, x1, x2, rfl, hT, rfl, e1, e2⟩
      obtain ⟨d, hm, dp⟩ := dpAll_get da e2
      have s2 : Same H (upd H1 T (.tup [x1, x2])) := s1.trans (Same.new hT)
      refine ⟨T, _, rfl, SqT.hp upd_same, rfl, x1, _, rfl, x2, _, rfl, rfl, ?_⟩
      refine ⟨x2, rfl, x2, d, rfl, sameD s2 d dp, fun H3 s3 => ⟨_, rfl, ?_⟩⟩
      rw [hd d hm]
      exact iteF ⟨⟨_, _, rfl⟩, s2.trans s3⟩
    · rintro σ H' ⟨⟨y, z, rfl⟩, s1⟩
      exact q H' s1
end
/-! is_empty -/
abbrev s_is_empty : Stmt := topS 22
abbrev sc_is_empty_N : List Str := ["pair", "ends", "begin", "end"]
theorem sc_is_empty : FnScope sc_is_empty_N ["pair", "ends"] (defScope s_is_empty) := ⟨rfl, rfl, rfl, by decide +kernel, rfl, by decide +kernel, by decide +kernel⟩
def sp_is_empty (K : PySem.W.Frag) : Sp := fun vs H Q _ => ∃ (t : Addr) (b e : Int) (z : Bool), vs = [.ref t, endsV z] ∧ SqT K H t [.int b, .int e] ∧ ∀ H', Same H H' → Q (.bl (emp z (b, e))) H'
section
variable {P : Program} {w : World} {K : PySem.W.Frag} {mg : Str → Option Value} {bh : Heap}
theorem ok_is_empty {f : Addr} {fd : FuncData} {f_check_ends : Addr} {fd_check_ends : FuncData} (B : Blt mg) (T : Txt K mg) (R_check_ends : Rdy P w K mg bh "check_ends" 1 ["ends"] (sp_check_ends K) f_check_ends fd_check_ends) (F : FunD K "is_empty" "is_empty" (defArgs s_is_empty) (defBody s_is_empty) (defScope s_is_empty) [.str "half"] [] f fd) : FnOk P w K mg bh CX0 2 f fd ["pair", "ends"] (sp_is_empty K) := by
  refine okD F sc_is_empty (fun vs H Q E h => ?_) (fun cdv A outer s H vs Q E hr h => ?_)
  · obtain ⟨t, b, e, z, rfl, _⟩ := h
    rfl
  · obtain ⟨t, b, e, z, rfl, sq, q⟩ := h
    refine ⟨_, (pss_cons (ps_expr (pe_rdy R_check_ends hr (by decide) (by rfl) (pa_cons (pv 1) pa_nil)))
      (pss_cons (ps_asg (pv 0) (pg_tup (by rfl) (pgs_cons (pg_name (i := 2) sc_is_empty.nd rfl (Or.inl rfl)) (pgs_cons (pg_name (i := 3) sc_is_empty.nd rfl (Or.inl rfl)) pgs_nil))))
      (pss_cons (ps_if (pt_cmpR op_eq (pv 1) (pe_shut T.ends (by rfl)) (nomark _))
      (pss_one (ps_ret (pe_cmpR op_gt (pv 2) (pv 3) (nomark _))))
      pss_nil)
      (pss_one (ps_ret (pe_cmpR op_ge (pv 2) (pv 3) (nomark _))))))), ?_⟩
    refine ⟨_, rfl, z, rfl, fun H1 s1 => ?_⟩
    refine ⟨_, rfl, t, _, rfl, sameT s1 sq, rfl, _, _, rfl, _, _, rfl, rfl, ?_⟩
    refine ⟨_, rfl, endsV_scal z, _, rfl, ?_⟩
    rw [endsV_shut]
    have z1 := q H1 s1
    cases z with
    | true => exact iteT ⟨_, rfl, _, rfl, _, _, rfl, rfl, z1⟩
    | false => exact iteF ⟨_, rfl, _, rfl, _, _, rfl, rfl, z1⟩
end
/-! turns -/
abbrev s_turns : Stmt := topS 24
abbrev sc_turns_N : List Str := ["pairs", "ends", "found", "begin", "end"]
theorem sc_turns : FnScope sc_turns_N ["pairs", "ends"] (defScope s_turns) := ⟨rfl, rfl, rfl, by decide +kernel, rfl, by decide +kernel, by decide +kernel⟩
def sp_turns (K : PySem.W.Frag) : Sp := fun vs H Q _ => ∃ (a : Addr) (ts : List Addr) (ps : List Pr) (z : Bool), vs = [.ref a, endsV z] ∧ Sq K H a (ts.map V.ref) ∧ Pd H ts ps ∧ ps.length ≤ 400 ∧ ∀ r us H', H r = none → H' r = some (.lst (us.map V.ref)) → Pd H' us (srt (turnsM z ps)) → Same H H' → Q (.ref r) H'
section
variable {P : Program} {w : World} {K : PySem.W.Frag} {mg : Str → Option Value} {bh : Heap}
theorem ok_turns {f : Addr} {fd : FuncData} {f_is_empty : Addr} {fd_is_empty : FuncData} (B : Blt mg) (T : Txt K mg) (R_is_empty : RdyD P w K mg bh "is_empty" 2 ["pair", "ends"] [.str "half"] (sp_is_empty K) f_is_empty fd_is_empty) (F : Fun K "turns" "turns" s_turns f fd) : FnOk P w K mg bh CX0 3 f fd ["pairs", "ends"] (sp_turns K) := by
  refine F.ok sc_turns (fun vs H Q E h => ?_) (fun cdv A outer s H vs Q E hr h => ?_)
  · obtain ⟨a, ts, ps, z, rfl, _⟩ := h
    rfl
  · obtain ⟨a, ts, ps, z, rfl, sq, pd, hlen, q⟩ := h
    refine ⟨_, (pss_cons (ps_set (i := 2) sc_turns.nd rfl (Or.inl rfl) (pe_lst pa_nil))
      (pss_cons (ps_for PassesOwn.never rfl (pi_sq (pv 0)) (pg_tup (by rfl) (pgs_cons (pg_name (i := 3) sc_turns.nd rfl (Or.inl rfl)) (pgs_cons (pg_name (i := 4) sc_turns.nd rfl (Or.inl rfl)) pgs_nil)))
      (pss_one (ps_if (pt_not (pt_val (pe_rdyD R_is_empty hr (by decide) (by rfl) (pa_cons (pe_tup (pa_cons (pv 3) (pa_cons (pv 4) pa_nil))) (pa_cons (pv 1) pa_nil)))))
      (pss_cons (ps_expr (pe_bm PySem.F.plainAttrs_list PySem.F.slot_list_append PySem.F.type_list_append mt_append (pv 2) (pa_cons (pe_tup (pa_cons (pv 3) (pa_cons pe_int pa_nil))) pa_nil)))
      (pss_one (ps_expr (pe_bm PySem.F.plainAttrs_list PySem.F.slot_list_append PySem.F.type_list_append mt_append (pv 2) (pa_cons (pe_tup (pa_cons (pe_ifExp (pt_cmpR op_eq (pv 1) (pe_shut T.ends (by rfl)) (nomark _)) (pe_op op_add (pv 4) pe_int) (pv 4)) (pa_cons (pe_un un_neg pe_int) pa_nil))) pa_nil)))))
      pss_nil)))
      (pss_one (ps_ret (pe_callB cr_sortedPO (by rfl) B.b_sorted (by decide +kernel) (pa_cons (pv 2) pa_nil)))))), ?_⟩
    have lts := pd.len
    refine ⟨Nat.zero_le _, fun L nL => ?_⟩
    have sL := Same.new (o := .lst []) nL
    refine ⟨_, rfl, a, _, rfl, sameQ sL sq, fun J wk => ?_⟩
    refine for_it wk (fun i σ H' => ∃ y3 y4 us, σ = [some (.ref a), some (endsV z), some (.ref L), y3, y4] ∧ H' L = some (.lst (us.map V.ref)) ∧ Pd H' us (turnsM z (ps.take i)) ∧ Same H H')
      ⟨none, none, [], rfl, upd_same, trivial, sL⟩ (fun i σ H' _ h => ?_) ?_ ?_
    · obtain ⟨_, _, us, _, hL, pu, s1⟩ := h
      refine sqK_app s1 hL fun e => ?_
      have e0 : ts = [] := List.map_eq_nil_iff.mp e
      subst e0
      have e1 : ps = [] := List.eq_nil_of_length_eq_zero lts.symm
      subst e1
      rw [List.take_nil] at pu
      rw [pu.nil]; rfl
    · rintro i x σ H3 H4 hi ⟨y3, y4, us, rfl, hL, pu, s1⟩ ⟨rfl, hx⟩
      obtain ⟨t, ht, rfl⟩ := map_get hx
      obtain ⟨p, hp, et⟩ := Pd.get pd ht
      have lf : (turnsM z (ps.take i)).length ≤ 2 * ps.length := Nat.le_trans (turns_len _) (Nat.mul_le_mul_left _ (List.length_take_le' ..))
      have lu := pu.len
      have neL : ∀ {b o}, H b = some o → b ≠ L := fun e => ne_of_none e nL
      refine ⟨t, _, rfl, SqT.hp (s1 _ _ et), rfl, _, _, rfl, _, _, rfl, rfl, ?_⟩
      refine ⟨_, rfl, _, rfl, (by show 2 ≤ sizeLine; decide), fun T0 nT0 => ?_⟩
      have sT0 := Same.new (o := .tup [.int p.1, .int p.2]) nT0
      refine ⟨_, rfl, T0, p.1, p.2, z, rfl, SqT.hp upd_same, fun H5 s5 => ⟨_, rfl, ?_⟩⟩
      have hL5 := s5 _ _ (sT0 _ _ hL)
      have pu5 := (pu.same sT0).same s5
      have s15 := (s1.trans sT0).trans s5
      rw [take_more hp, turns_snoc]
      refine ite2 (fun c => ?_) (fun c => ?_)
      · have c : emp z p = false := by simpa using c
        rw [turn1_ne c]
        refine ⟨_, rfl, .inl ⟨rfl, _, SqL.hp hL5⟩, _, rfl, (by show 2 ≤ sizeLine; decide), fun T1 nT1 => ?_⟩
        obtain ⟨hL6, pu6⟩ := app_pair (x := (p.1, 1)) hL5 pu5 nT1
        have s16 : Same H _ := app_same (o := .tup [.int p.1, .int 1]) (u := .lst (us.map V.ref ++ [.ref T1])) s15 nL nT1
        refine ⟨L, _, _, rfl, rfl, (Same.new nT1) _ _ hL5, by rw [List.length_map]; exact small1000 (by omega), ?_⟩
        generalize (upd (upd H5 T1 (.tup [.int p.1, .int 1])) L (.lst (us.map V.ref ++ [.ref T1]))) = H6 at *
        refine ⟨_, rfl, .inl ⟨rfl, _, SqL.hp hL6⟩, _, rfl, endsV_scal z, _, rfl, ?_⟩
        rw [endsV_shut]
        refine ite2 (fun c2 => ?_) (fun c2 => ?_)
        · rw [if_pos c2, ← List.append_assoc]
          refine ⟨_, rfl, _, _, rfl, rfl, _, rfl, (by show 2 ≤ sizeLine; decide), fun T2 nT2 => ?_⟩
          obtain ⟨hL7, pu7⟩ := app_pair (x := (p.2 + 1, -1)) hL6 pu6 nT2
          have s17 : Same H _ := app_same (o := .tup [.int (p.2 + 1), .int (-1)]) (u := .lst ((us ++ [T1]).map V.ref ++ [.ref T2])) s16 nL nT2
          exact ⟨L, _, _, rfl, rfl, (Same.new nT2) _ _ hL6, by rw [List.length_map, List.length_append, List.length_singleton]; exact small1000 (by omega), _, _, us ++ [T1] ++ [T2], rfl, hL7, pu7, s17⟩
        · rw [if_neg c2, ← List.append_assoc]
          refine ⟨_, rfl, _, rfl, (by show 2 ≤ sizeLine; decide), fun T2 nT2 => ?_⟩
          obtain ⟨hL7, pu7⟩ := app_pair (x := (p.2, -1)) hL6 pu6 nT2
          have s17 : Same H _ := app_same (o := .tup [.int p.2, .int (-1)]) (u := .lst ((us ++ [T1]).map V.ref ++ [.ref T2])) s16 nL nT2
          exact ⟨L, _, _, rfl, rfl, (Same.new nT2) _ _ hL6, by rw [List.length_map, List.length_append, List.length_singleton]; exact small1000 (by omega), _, _, us ++ [T1] ++ [T2], rfl, hL7, pu7, s17⟩
      · have c : emp z p = true := by simpa using c
        rw [turn1_em c, List.append_nil]
        exact ⟨_, _, us, rfl, hL5, pu5, s15⟩
    · rintro σ H3 ⟨y3, y4, us, rfl, hL, pu, s1⟩
      rw [List.length_map, lts, List.take_length] at pu
      refine ⟨_, rfl, L, _, kOf H3, rfl, SqL.hp hL, pu.all, fun ys m hs hb nm => ?_⟩
      obtain ⟨vs, rfl, pv'⟩ := sorted_refs pu hs hb
      have sm : Same H3 (upd H3 m (.lst (vs.map V.ref))) := Same.new nm
      exact q m vs _ (s1.free nm) upd_same (pv'.same sm) (s1.trans sm)
end
/-! counts_at -/
abbrev s_counts_at : Stmt := topS 25
abbrev sc_counts_at_N : List Str := ["pairs", "moments", "ends", "changes", "counts", "passed", "many", "moment"]
theorem sc_counts_at : FnScope sc_counts_at_N ["pairs", "moments", "ends"] (defScope s_counts_at) := ⟨rfl, rfl, rfl, by decide +kernel, rfl, by decide +kernel, by decide +kernel⟩
def sp_counts_at (K : PySem.W.Frag) : Sp := fun vs H Q _ => ∃ (a b : Addr) (ts : List Addr) (ps : List Pr) (ms : List Int) (z : Bool), vs = [.ref a, .ref b, endsV z] ∧ Sq K H a (ts.map V.ref) ∧ Pd H ts ps ∧ (∀ p ∈ ps, p.1 ≤ p.2) ∧ ps.length ≤ 400 ∧ SqL K H b (ms.map V.int) ∧ ms.Pairwise (· ≤ ·) ∧ ms.length ≤ 900 ∧ ∀ r H', H r = none → H' r = some (.lst ((ms.map (hldN z ps)).map V.int)) → Same H H' → Q (.ref r) H'
section
variable {P : Program} {w : World} {K : PySem.W.Frag} {mg : Str → Option Value} {bh : Heap}
theorem ok_counts_at {f : Addr} {fd : FuncData} {f_turns : Addr} {fd_turns : FuncData} (B : Blt mg) (T : Txt K mg) (R_turns : Rdy P w K mg bh "turns" 3 ["pairs", "ends"] (sp_turns K) f_turns fd_turns) (F : Fun K "counts_at" "counts_at" s_counts_at f fd) : FnOk P w K mg bh CX0 4 f fd ["pairs", "moments", "ends"] (sp_counts_at K) := by
  refine F.ok sc_counts_at (fun vs H Q E h => ?_) (fun cdv A outer s H vs Q E hr h => ?_)
  · obtain ⟨a, b, ts, ps, ms, z, rfl, _⟩ := h
    rfl
  · obtain ⟨a, b, ts, ps, ms, z, rfl, sq, pd, hle, hlen, sb, hms, lms, q⟩ := h
    refine ⟨_, (pss_cons (ps_set (i := 3) sc_counts_at.nd rfl (Or.inl rfl) (pe_rdy R_turns hr (by decide) (by rfl) (pa_cons (pv 0) (pa_cons (pv 2) pa_nil))))
      (pss_cons (ps_set (i := 4) sc_counts_at.nd rfl (Or.inl rfl) (pe_lst pa_nil))
      (pss_cons (ps_set (i := 5) sc_counts_at.nd rfl (Or.inl rfl) pe_int)
      (pss_cons (ps_set (i := 6) sc_counts_at.nd rfl (Or.inl rfl) pe_int)
      (pss_cons (ps_for PassesOwn.never rfl (pi_list (pv 1)) (pg_name (i := 7) sc_counts_at.nd rfl (Or.inl rfl))
      (pss_cons (ps_while PassesOwn.never (PW.pt (pw_and (pt_cmpR op_lt (pv 5) (pe_callB call_len_seq (by rfl) B.b_len (by decide +kernel) (pa_cons (pv 3) pa_nil)) (nomark _)) (pw_and1 (pt_cmpR op_le (pe_ix ix_tup (pe_ix ix_list (pv 3) (pv 5) (fun _ _ => rfl)) pe_int (fun _ _ => rfl)) (pv 7) (nomark _)))))
      (pss_cons (ps_aug (i := 6) sc_counts_at.nd rfl (.inl rfl) (pe_ix ix_tup (pe_ix ix_list (pv 3) (pv 5) (fun _ _ => rfl)) pe_int (fun _ _ => rfl)) ip_add)
      (pss_one (ps_aug (i := 5) sc_counts_at.nd rfl (.inl rfl) pe_int ip_add))))
      (pss_one (ps_expr (pe_bm PySem.F.plainAttrs_list PySem.F.slot_list_append PySem.F.type_list_append mt_append (pv 4) (pa_cons (pv 6) pa_nil))))))
      (pss_one (ps_ret (pv 4)))))))), ?_⟩
    refine ⟨_, rfl, _, rfl, a, ts, ps, z, rfl, sq, pd, hlen, fun c us H1 nc hc pu s1 => ?_⟩
    obtain ⟨cs, ec⟩ : ∃ cs, srt (turnsM z ps) = cs := ⟨_, rfl⟩
    have srtd : cs.Pairwise ple := ec ▸ srt_sorted _
    have cmE : ∀ m, cM cs m = hldN z ps m := fun m => ec ▸ srt_turns z hle m
    rw [ec] at pu
    have lu := pu.len
    refine ⟨Nat.zero_le _, fun L nL => ?_⟩
    have sL := Same.new (o := .lst []) nL
    have s12 := s1.trans sL
    refine ⟨_, rfl, b, rfl, ⟨_, s12.seq sb⟩, ?_⟩
    refine for_list (K := K) (a := b) (xs := ms.map V.int) (fun i σ H' => ∃ (k : Nat) (y : Option V), σ = [some (.ref a), some (.ref b), some (endsV z), some (.ref c), some (.ref L), some (.int k), some (.int (sumK (cs.take k))), y] ∧ k ≤ cs.length ∧ (∀ t ∈ cs.take k, ∀ m ∈ ms.drop i, t.1 ≤ m) ∧ H' L = some (.lst (((ms.take i).map (hldN z ps)).map V.int)) ∧ Same H1 H')
      ⟨0, none, rfl, Nat.zero_le _, (fun t ht => by rw [List.take_zero] at ht; cases ht), upd_same, sL⟩ (fun i σ H' _ h => by obtain ⟨_, _, _, _, _, _, s⟩ := h; exact (s1.trans s).seq sb) ?_ ?_
    · rintro i x σ H2 hx ⟨k, y, rfl, hk, hall, hL, s2⟩
      obtain ⟨m, hm, rfl⟩ := map_get hx
      have hc2 := s2 _ _ hc
      have pu2 := pu.same s2
      have hmd : m ∈ ms.drop i := by
        obtain ⟨hi, e⟩ := List.getElem?_eq_some_iff.mp hm
        rw [List.drop_eq_getElem_cons hi, ← e]; exact List.mem_cons_self
      have hmi : ∀ n ∈ ms.drop i, m ≤ n := by
        obtain ⟨hi, e⟩ := List.getElem?_eq_some_iff.mp hm
        intro n hn
        have pd' := hms.sublist (List.drop_sublist i ms)
        rw [List.drop_eq_getElem_cons hi, e] at pd' hn
        rcases List.mem_cons.mp hn with rfl | hn
        · exact Int.le_refl _
        · exact (List.pairwise_cons.mp pd').1 n hn
      refine ⟨fun mu σ H' => ∃ k : Nat, mu = cs.length - k ∧ σ = [some (.ref a), some (.ref b), some (endsV z), some (.ref c), some (.ref L), some (.int k), some (.int (sumK (cs.take k))), some (.int m)] ∧ H' = H2 ∧ k ≤ cs.length ∧ (∀ t ∈ cs.take k, ∀ m ∈ ms.drop i, t.1 ≤ m), ⟨_, k, rfl, rfl, rfl, hk, hall⟩, ?_⟩
      clear hk hall
      rintro mu σ H3 ⟨k, rfl, rfl, rfl, hk, hall⟩
      refine ⟨_, rfl, _, rfl, c, _, rfl, .inl (SqL.hp hc2), _, _, rfl, rfl, _, rfl, ?_⟩
      rw [List.length_map, lu]
      have done : (∀ t, cs[k]? = some t → m < t.1) → sumK (cs.take k) = hldN z ps m := fun h => (cM_take srtd (fun t ht => hall t ht m hmd) h).trans (cmE m)
      have fin : (∀ t, cs[k]? = some t → m < t.1) → ∃ (k' : Nat) (y : Option V), ([some (.ref a), some (.ref b), some (endsV z), some (.ref c), some (.ref L), some (.int k), some (.int (sumK (cs.take k))), some (.int m)] : L2.St) = [some (.ref a), some (.ref b), some (endsV z), some (.ref c), some (.ref L), some (.int k'), some (.int (sumK (cs.take k'))), y] ∧ k' ≤ cs.length ∧ (∀ t ∈ cs.take k', ∀ m ∈ ms.drop (i + 1), t.1 ≤ m) ∧ (upd H3 L (.lst (((ms.take i).map (hldN z ps)).map V.int ++ [.int (sumK (cs.take k))]))) L = some (.lst (((ms.take (i + 1)).map (hldN z ps)).map V.int)) ∧ Same H1 (upd H3 L (.lst (((ms.take i).map (hldN z ps)).map V.int ++ [.int (sumK (cs.take k))]))) := fun h => by
        refine ⟨k, _, rfl, hk, fun t ht n hn => hall t ht n ?_, ?_, fun w o e => by rw [upd_ne (ne_of_none e nL)]; exact s2 _ _ e⟩
        · rw [← List.drop_drop] at hn
          exact List.mem_of_mem_drop hn
        · rw [upd_same, done h, take_more hm, List.map_append, List.map_append]; rfl
      have lt : ((ms.take i).map (hldN z ps)).length ≤ 900 := by
        rw [List.length_map]
        exact Nat.le_trans (List.length_take_le' ..) lms
      refine ite2 (fun c1 => ?_) (fun c1 => ?_)
      · have hkl : k < cs.length := by have := of_decide_eq_true c1; omega
        have htk : us[k]? = some (us[k]'(by omega)) := List.getElem?_eq_getElem (by omega)
        obtain ⟨u, hu⟩ : ∃ u, us[k]? = some u := ⟨_, htk⟩
        obtain ⟨p, hp, et⟩ := Pd.get pu2 hu
        have hat : atI (us.map V.ref) (k : Int) = some (.ref u) := atI_nat (by rw [List.getElem?_map, hu]; rfl)
        refine ⟨_, rfl, _, rfl, c, _, (k : Int), _, rfl, rfl, SqL.hp hc2, hat, u, _, 0, _, rfl, rfl, SqT.hp et, rfl, _, rfl, _, _, rfl, rfl, _, rfl, ?_⟩
        refine ite2 (fun c2 => ?_) (fun c2 => ?_)
        · have le : p.1 ≤ m := of_decide_eq_true c2
          refine ⟨fun σ' H' => σ' = [some (.ref a), some (.ref b), some (endsV z), some (.ref c), some (.ref L), some (.int ((k : Int) + 1)), some (.int (sumK (cs.take k) + p.2)), some (.int m)] ∧ H' = H3, ?_, ?_⟩
          · rintro σ' H' ⟨rfl, rfl⟩
            refine ⟨cs.length - (k + 1), by omega, k + 1, rfl, ?_, rfl, hkl, fun t ht n hn => ?_⟩
            · rw [take_more hp, sumK_snoc]; rfl
            · rw [take_more hp] at ht
              rcases List.mem_append.mp ht with ht | ht
              · exact hall t ht n hn
              · rw [List.mem_singleton.mp ht]; exact Int.le_trans le (hmi n hn)
          · refine ⟨_, rfl, _, rfl, _, rfl, c, _, (k : Int), _, rfl, rfl, SqL.hp hc2, hat, u, _, 1, _, rfl, rfl, SqT.hp et, rfl, _, _, rfl, rfl, ?_⟩
            exact ⟨_, rfl, _, _, rfl, rfl, rfl, rfl⟩
        · have gt : m < p.1 := by have := of_decide_eq_false (Bool.eq_false_iff.mpr c2); omega
          have h : ∀ t, cs[k]? = some t → m < t.1 := fun t ht => by rw [hp] at ht; cases ht; exact gt
          exact ⟨_, rfl, .inl ⟨rfl, _, SqL.hp hL⟩, _, rfl, L, _, _, rfl, rfl, hL, by rw [List.length_map]; exact small1000 (by omega), fin h⟩
      · have h : ∀ t, cs[k]? = some t → m < t.1 := fun t ht => by
          have := (List.getElem?_eq_some_iff.mp ht).1
          have := of_decide_eq_false (Bool.eq_false_iff.mpr c1)
          omega
        exact ⟨_, rfl, .inl ⟨rfl, _, SqL.hp hL⟩, _, rfl, L, _, _, rfl, rfl, hL, by rw [List.length_map]; exact small1000 (by omega), fin h⟩
    · rintro σ H2 ⟨k, y, rfl, hk, hall, hL, s2⟩
      rw [List.length_map, List.take_length] at hL
      refine ⟨_, rfl, q L H2 (s1.free nL) hL (s1.trans s2)⟩
end
/-! wanted_times -/
abbrev s_wanted_times : Stmt := topS 27
abbrev sc_wanted_times_N : List Str := ["which", "held", "many", "told"]
theorem sc_wanted_times : FnScope sc_wanted_times_N ["which", "held", "many"] (defScope s_wanted_times) := ⟨rfl, rfl, rfl, by decide +kernel, rfl, by decide +kernel, by decide +kernel⟩
def sp_wanted_times (K : PySem.W.Frag) : Sp := fun vs H Q _ => ∃ (t : Nat) (h n : Int), vs = [wndV t, .int h, .int n] ∧ t < 6 ∧ Q (.int (wndB t h n)) H
section
variable {P : Program} {w : World} {K : PySem.W.Frag} {mg : Str → Option Value} {bh : Heap}
theorem ok_wanted_times {f : Addr} {fd : FuncData}  (B : Blt mg) (T : Txt K mg)  (F : Fun K "wanted_times" "wanted_times" s_wanted_times f fd) : FnOk P w K mg bh CX0 1 f fd ["which", "held", "many"] (sp_wanted_times K) := by
  refine F.ok sc_wanted_times (fun vs H Q E h => ?_) (fun cdv A outer s H vs Q E hr h => ?_)
  · obtain ⟨t, h, n, rfl, _⟩ := h
    rfl
  · obtain ⟨t, h, n, rfl, t6, q⟩ := h
    refine ⟨_, (pss_cons (ps_if (pt_cmpR op_eq (pv 0) pe_str (nomark _))
      (pss_one (ps_ret (pv 1)))
      pss_nil)
      (pss_cons (ps_if (pt_cmpR op_eq (pv 0) pe_str (nomark _))
      (pss_one (ps_set (i := 3) sc_wanted_times.nd rfl (Or.inl rfl) (pe_cmpR op_gt (pv 1) pe_int (nomark _))))
      (pss_one (ps_if (pt_cmpR op_eq (pv 0) pe_str (nomark _))
      (pss_one (ps_set (i := 3) sc_wanted_times.nd rfl (Or.inl rfl) (pe_cmpR op_eq (pv 1) pe_int (nomark _))))
      (pss_one (ps_if (pt_cmpR op_eq (pv 0) pe_str (nomark _))
      (pss_one (ps_set (i := 3) sc_wanted_times.nd rfl (Or.inl rfl) (pe_cmpR op_eq (pv 1) (pv 2) (nomark _))))
      (pss_one (ps_if (pt_cmpR op_eq (pv 0) pe_str (nomark _))
      (pss_one (ps_set (i := 3) sc_wanted_times.nd rfl (Or.inl rfl) (pe_cmpR op_eq (pv 1) pe_int (nomark _))))
      (pss_one (ps_set (i := 3) sc_wanted_times.nd rfl (Or.inl rfl) (pe_cmpR op_gt (pv 1) pe_int (nomark _)))))))))))
      (pss_one (ps_ret (pe_ifExp (pt_truth (pv 3) (by intro _; rfl)) pe_int pe_int))))), ?_⟩
    refine ⟨_, rfl, rfl, _, rfl, ?_⟩
    rw [wnd_each t6]
    refine ite2 (fun c => ?_) (fun c5 => ?_)
    · obtain rfl := of_decide_eq_true c
      exact ⟨_, rfl, q⟩
    have fin : ∀ (b : Bool), (if b = true then (1 : Int) else 0) = wndB t h n → ∃ k, TruV K (.bl b) H k ∧ (if k = true then Q (.int 1) H else Q (.int 0) H) := fun b e => by
      refine ⟨b, ?_, ?_⟩
      · rfl
      · rw [← e] at q
        cases b with
        | true => exact iteT q
        | false => exact iteF q
    have n5 : ¬ t = 5 := fun h => c5 (decide_eq_true h)
    refine ⟨_, rfl, rfl, _, rfl, ?_⟩
    rw [wnd_some t6]
    refine ite2 (fun c => ?_) (fun c0 => ?_)
    · obtain rfl := of_decide_eq_true c
      refine ⟨_, rfl, _, _, rfl, rfl, _, rfl, fin _ ?_⟩
      first | rfl | (unfold wndB; simp)
    have n0 : ¬ t = 0 := fun h => c0 (decide_eq_true h)
    refine ⟨_, rfl, rfl, _, rfl, ?_⟩
    rw [wnd_none t6]
    refine ite2 (fun c => ?_) (fun c1 => ?_)
    · obtain rfl := of_decide_eq_true c
      refine ⟨_, rfl, rfl, _, rfl, fin _ ?_⟩
      first | rfl | (unfold wndB; simp)
    have n1 : ¬ t = 1 := fun h => c1 (decide_eq_true h)
    refine ⟨_, rfl, rfl, _, rfl, ?_⟩
    rw [wnd_all t6]
    refine ite2 (fun c => ?_) (fun c2 => ?_)
    · obtain rfl := of_decide_eq_true c
      refine ⟨_, rfl, _, rfl, rfl, _, rfl, fin _ ?_⟩
      first | rfl | (unfold wndB; simp)
    have n2 : ¬ t = 2 := fun h => c2 (decide_eq_true h)
    refine ⟨_, rfl, rfl, _, rfl, ?_⟩
    rw [wnd_one t6]
    refine ite2 (fun c => ?_) (fun c3 => ?_)
    · obtain rfl := of_decide_eq_true c
      refine ⟨_, rfl, rfl, _, rfl, fin _ ?_⟩
      first | rfl | (unfold wndB; simp)
    have n3 : ¬ t = 3 := fun h => c3 (decide_eq_true h)
    obtain rfl : t = 4 := by omega
    refine ⟨_, rfl, _, _, rfl, rfl, _, rfl, fin _ ?_⟩
    first | rfl | (unfold wndB; simp)
end
/-! is_moment -/
abbrev s_is_moment : Stmt := topS 15
abbrev sc_is_moment_N : List Str := ["value"]
theorem sc_is_moment : FnScope sc_is_moment_N ["value"] (defScope s_is_moment) := ⟨rfl, rfl, rfl, by decide +kernel, rfl, by decide +kernel, by decide +kernel⟩
def sp_is_moment (K : PySem.W.Frag) : Sp := fun vs H Q _ => ∃ i : Int, vs = [.int i] ∧ -10000000000000000000000000000000 < i ∧ i < 10000000000000000000000000000000 ∧ Q (.bl true) H
section
variable {P : Program} {w : World} {K : PySem.W.Frag} {mg : Str → Option Value} {bh : Heap}
theorem ok_is_moment {f : Addr} {fd : FuncData} {f_is_number : Addr} {fd_is_number : FuncData} (B : Blt mg) (T : Txt K mg) (R_is_number : Rdy P w K mg bh "is_number" 1 ["value"] (sp_is_number K) f_is_number fd_is_number) (F : Fun K "is_moment" "is_moment" s_is_moment f fd) : FnOk P w K mg bh CX0 2 f fd ["value"] (sp_is_moment K) := by
  refine F.ok sc_is_moment (fun vs H Q E h => ?_) (fun cdv A outer s H vs Q E hr h => ?_)
  · obtain ⟨i, rfl, _⟩ := h
    rfl
  · obtain ⟨i, rfl, i0, i1, q⟩ := h
    refine ⟨_, (pss_one (ps_ret (pe_and (pe_rdy R_is_number hr (by decide) (by rfl) (pa_cons (pv 0) pa_nil)) (pe_one (pe_chain op_lt op_lt (pe_globI T.g_FIRST (by rfl)) (pv 0) (pe_globI T.g_LAST (by rfl))))))), ?_⟩
    refine ⟨_, rfl, .int i, .int i, rfl, .int _, _, rfl, iteT ?_⟩
    refine ⟨_, rfl, _, _, rfl, rfl, _, rfl, ?_⟩
    rw [decide_eq_true i0]
    refine iteT ⟨_, _, rfl, rfl, ?_⟩
    rw [← decide_eq_true i1] at q
    exact q
end
/-! check_moment -/
abbrev s_check_moment : Stmt := topS 19
abbrev sc_check_moment_N : List Str := ["moment"]
theorem sc_check_moment : FnScope sc_check_moment_N ["moment"] (defScope s_check_moment) := ⟨rfl, rfl, rfl, by decide +kernel, rfl, by decide +kernel, by decide +kernel⟩
def sp_check_moment (K : PySem.W.Frag) : Sp := fun vs H Q _ => ∃ i : Int, vs = [.int i] ∧ -10000000000000000000000000000000 < i ∧ i < 10000000000000000000000000000000 ∧ Q .non H
section
variable {P : Program} {w : World} {K : PySem.W.Frag} {mg : Str → Option Value} {bh : Heap}
theorem ok_check_moment {f : Addr} {fd : FuncData} {f_is_moment : Addr} {fd_is_moment : FuncData} (B : Blt mg) (T : Txt K mg) (R_is_moment : Rdy P w K mg bh "is_moment" 2 ["value"] (sp_is_moment K) f_is_moment fd_is_moment) (F : Fun K "check_moment" "check_moment" s_check_moment f fd) : FnOk P w K mg bh CX0 3 f fd ["moment"] (sp_check_moment K) := by
  refine F.ok sc_check_moment (fun vs H Q E h => ?_) (fun cdv A outer s H vs Q E hr h => ?_)
  · obtain ⟨i, rfl, _⟩ := h
    rfl
  · obtain ⟨i, rfl, i0, i1, q⟩ := h
    refine ⟨_, (pss_one (ps_if (pt_not (pt_val (pe_rdy R_is_moment hr (by decide) (by rfl) (pa_cons (pv 0) pa_nil))))
      (pss_one ps_never)
      pss_nil)), ?_⟩
    exact ⟨_, rfl, i, rfl, i0, i1, _, rfl, iteF q⟩
end
/-! is_event -/
abbrev s_is_event : Stmt := topS 29
abbrev sc_is_event_N : List Str := ["value", "word", "at"]
theorem sc_is_event : FnScope sc_is_event_N ["value"] (defScope s_is_event) := ⟨rfl, rfl, rfl, by decide +kernel, rfl, by decide +kernel, by decide +kernel⟩
def sp_is_event (K : PySem.W.Frag) : Sp := fun vs H Q _ => ∃ (t : Addr) (e : Evt), vs = [.ref t] ∧ SqT K H t [evW e.1, .int e.2] ∧ evP e = true ∧ ∀ H', Same H H' → Q (.bl true) H'
section
variable {P : Program} {w : World} {K : PySem.W.Frag} {mg : Str → Option Value} {bh : Heap}
theorem ok_is_event {f : Addr} {fd : FuncData} {f_is_number : Addr} {fd_is_number : FuncData} (B : Blt mg) (T : Txt K mg) (R_is_number : Rdy P w K mg bh "is_number" 1 ["value"] (sp_is_number K) f_is_number fd_is_number) (F : Fun K "is_event" "is_event" s_is_event f fd) : FnOk P w K mg bh CX0 2 f fd ["value"] (sp_is_event K) := by
  refine F.ok sc_is_event (fun vs H Q E h => ?_) (fun cdv A outer s H vs Q E hr h => ?_)
  · obtain ⟨t, e, rfl, _⟩ := h
    rfl
  · obtain ⟨t, e, rfl, sq, he, q⟩ := h
    refine ⟨_, (pss_cons (ps_if (PW.pt (pw_or (pt_not (pt_val (pe_callB call_isi (by rfl) B.b_isinstance (by decide +kernel) (pa_cons (pv 0) (pa_cons (pe_bltn (v := .ty "tuple") (by rfl) B.b_tuple (by decide +kernel) rfl) pa_nil))))) (pw_or1 (pt_cmpR op_ne (pe_callB call_len_seq (by rfl) B.b_len (by decide +kernel) (pa_cons (pv 0) pa_nil)) pe_int (nomark _)))))
      (pss_one (ps_ret pe_bl))
      pss_nil)
      (pss_cons (ps_asg (pv 0) (pg_tup (by rfl) (pgs_cons (pg_name (i := 1) sc_is_event.nd rfl (Or.inl rfl)) (pgs_cons (pg_name (i := 2) sc_is_event.nd rfl (Or.inl rfl)) pgs_nil))))
      (pss_one (ps_ret (pe_and (pe_cmpR op_in_seq (pv 1) (pe_tup (pa_cons pe_str (pa_cons pe_str pa_nil))) (by rfl)) (pe_and (pe_rdy R_is_number hr (by decide) (by rfl) (pa_cons (pv 2) pa_nil)) (pe_one (pe_chain op_le op_le (pe_un un_neg (pe_globI T.g_FAR (by rfl))) (pv 2) (pe_globI T.g_FAR (by rfl)))))))))), ?_⟩
    have dp : Dp K H (.ref t) (evD e) := .tup sq (.cons (.str _) (.cons (.int _) .nil))
    have b1 : -1000000000000000000000000000000 ≤ e.2 ∧ e.2 ≤ 1000000000000000000000000000000 := by
      have := he
      unfold evP at this
      simp only [Bool.and_eq_true, decide_eq_true_eq] at this
      exact this
    refine ⟨_, rfl, _, _, _, _, _, rfl, .ty _, dpTy dp, kit_ty (kitTup (evD e)), _, rfl, ?_⟩
    refine iteFe rfl ?_
    refine ⟨_, rfl, t, _, rfl, .inr sq, rfl, _, rfl, iteFe rfl ?_⟩
    refine ⟨_, rfl, t, _, rfl, sq, rfl, _, _, rfl, _, _, rfl, rfl, ?_⟩
    refine ⟨_, rfl, (by show 2 ≤ sizeLine; decide), fun T nT => ?_⟩
    have sT := Same.new (o := .tup [.str "in", .str "out"]) nT
    refine ⟨T, _, rfl, .inr (SqT.hp upd_same), evW_flat _, by decide +kernel, ?_⟩
    refine ⟨_, rfl, ?_⟩
    rw [evW_mem]
    refine iteT ⟨_, rfl, .int e.2, .int e.2, rfl, .int _, _, rfl, iteT ?_⟩
    refine ⟨_, rfl, _, rfl, _, _, rfl, rfl, _, rfl, ?_⟩
    rw [decide_eq_true b1.1]
    have q1 := q _ sT
    rw [← decide_eq_true b1.2] at q1
    exact iteT ⟨_, _, rfl, rfl, q1⟩
end
/-! check_events -/
abbrev s_check_events : Stmt := topS 30
abbrev sc_check_events_N : List Str := ["events", "index", "event"]
theorem sc_check_events : FnScope sc_check_events_N ["events"] (defScope s_check_events) := ⟨rfl, rfl, rfl, by decide +kernel, rfl, by decide +kernel, by decide +kernel⟩
def sp_check_events (K : PySem.W.Frag) : Sp := fun vs H Q _ => ∃ (a : Addr) (ts : List Addr) (es : List Evt), vs = [.ref a] ∧ Sq K H a (ts.map V.ref) ∧ Ev H ts es ∧ (∀ e ∈ es, evP e = true) ∧ ∀ H', Same H H' → Q .non H'
section
variable {P : Program} {w : World} {K : PySem.W.Frag} {mg : Str → Option Value} {bh : Heap}
theorem ok_check_events {f : Addr} {fd : FuncData} {f_is_event : Addr} {fd_is_event : FuncData} (B : Blt mg) (T : Txt K mg) (R_is_event : Rdy P w K mg bh "is_event" 2 ["value"] (sp_is_event K) f_is_event fd_is_event) (F : Fun K "check_events" "check_events" s_check_events f fd) : FnOk P w K mg bh CX0 3 f fd ["events"] (sp_check_events K) := by
  refine F.ok sc_check_events (fun vs H Q E h => ?_) (fun cdv A outer s H vs Q E hr h => ?_)
  · obtain ⟨a, ts, es, rfl, _⟩ := h
    rfl
  · obtain ⟨a, ts, es, rfl, sq, ev, hd, q⟩ := h
    refine ⟨_, (pss_one (ps_for PassesOwn.never rfl (pi_en (by rfl) B.b_enumerate (pa_cons (pv 0) pa_nil)) (pg_tup (by rfl) (pgs_cons (pg_name (i := 1) sc_check_events.nd rfl (Or.inl rfl)) (pgs_cons (pg_name (i := 2) sc_check_events.nd rfl (Or.inl rfl)) pgs_nil)))
      (pss_one (ps_if (pt_not (pt_val (pe_rdy R_is_event hr (by decide) (by rfl) (pa_cons (pv 2) pa_nil))))
      (pss_one ps_never)
      pss_nil)))), ?_⟩
    refine ⟨_, rfl, a, _, rfl, sq, fun J wk => ?_⟩
    refine for_it wk (fun i σ H' => (∃ y z, σ = [some (.ref a), y, z]) ∧ Same H H') ⟨⟨none, none, rfl⟩, Same.refl H⟩ (fun i σ H' _ h => sameK h.2) ?_ ?_
    · rintro i x σ H1 H2 hi ⟨⟨y, z, rfl⟩, s1⟩ ⟨T, x1, x2, rfl, hT, rfl, e1, e2⟩
      obtain ⟨t, ht, rfl⟩ := map_get e2
      obtain ⟨e, he, et⟩ := Ev.get ev ht
      have s2 : Same H (upd H1 T (.tup [x1, .ref t])) := s1.trans (Same.new hT)
      refine ⟨T, _, rfl, SqT.hp upd_same, rfl, x1, _, rfl, _, _, rfl, rfl, ?_⟩
      refine ⟨_, rfl, t, e, rfl, SqT.hp (s2 _ _ et), hd e (List.mem_of_getElem? he), fun H3 s3 => ⟨_, rfl, ?_⟩⟩
      exact iteF ⟨⟨_, _, rfl⟩, s2.trans s3⟩
    · rintro σ H' ⟨⟨y, z, rfl⟩, s1⟩
      exact q H' s1
end
/-! insides_at -/
abbrev s_insides_at : Stmt := topS 26
abbrev sc_insides_at_N : List Str := ["events", "moments", "told", "passed", "moment"]
theorem sc_insides_at : FnScope sc_insides_at_N ["events", "moments"] (defScope s_insides_at) := ⟨rfl, rfl, rfl, by decide +kernel, rfl, by decide +kernel, by decide +kernel⟩
def sp_insides_at (K : PySem.W.Frag) : Sp := fun vs H Q _ => ∃ (a b : Addr) (ts : List Addr) (es : List Evt) (ms : List Int), vs = [.ref a, .ref b] ∧ Sq K H a (ts.map V.ref) ∧ Ev H ts es ∧ es.Pairwise (fun x y => x.2 ≤ y.2) ∧ SqL K H b (ms.map V.int) ∧ ms.Pairwise (· ≤ ·) ∧ ms.length ≤ 900 ∧ ∀ r H', H r = none → H' r = some (.lst ((ms.map (insE es)).map V.int)) → Same H H' → Q (.ref r) H'
section
variable {P : Program} {w : World} {K : PySem.W.Frag} {mg : Str → Option Value} {bh : Heap}
theorem ok_insides_at {f : Addr} {fd : FuncData}  (B : Blt mg) (T : Txt K mg)  (F : Fun K "insides_at" "insides_at" s_insides_at f fd) : FnOk P w K mg bh CX0 1 f fd ["events", "moments"] (sp_insides_at K) := by
  refine F.ok sc_insides_at (fun vs H Q E h => ?_) (fun cdv A outer s H vs Q E hr h => ?_)
  · obtain ⟨a, b, ts, es, ms, rfl, _⟩ := h
    rfl
  · obtain ⟨a, b0, ts, es, ms, rfl, sq, ev, srtd, sb, hms, lms, q⟩ := h
    refine ⟨_, (pss_cons (ps_set (i := 2) sc_insides_at.nd rfl (Or.inl rfl) (pe_lst pa_nil))
      (pss_cons (ps_set (i := 3) sc_insides_at.nd rfl (Or.inl rfl) pe_int)
      (pss_cons (ps_for PassesOwn.never rfl (pi_list (pv 1)) (pg_name (i := 4) sc_insides_at.nd rfl (Or.inl rfl))
      (pss_cons (ps_while PassesOwn.never (PW.pt (pw_and (pt_cmpR op_lt (pv 3) (pe_callB call_len_seq (by rfl) B.b_len (by decide +kernel) (pa_cons (pv 0) pa_nil)) (nomark _)) (pw_and1 (pt_cmpR op_le (pe_ix ix_tup (pe_ix ix_seq (pv 0) (pv 3) (fun _ _ => rfl)) pe_int (fun _ _ => rfl)) (pv 4) (nomark _)))))
      (pss_one (ps_aug (i := 3) sc_insides_at.nd rfl (.inl rfl) pe_int ip_add)))
      (pss_one (ps_expr (pe_bm PySem.F.plainAttrs_list PySem.F.slot_list_append PySem.F.type_list_append mt_append (pv 2) (pa_cons (pe_ifExp (PW.pt (pw_and (pt_cmpR op_gt (pv 3) pe_int (nomark _)) (pw_and1 (pt_cmpR op_eq (pe_ix ix_tup (pe_ix ix_seq (pv 0) (pe_op op_sub (pv 3) pe_int) (fun _ _ => rfl)) pe_int (fun _ _ => rfl)) pe_str (nomark _))))) pe_int pe_int) pa_nil))))))
      (pss_one (ps_ret (pv 2)))))), ?_⟩
    have lu := ev.len
    refine ⟨Nat.zero_le _, fun L nL => ?_⟩
    have sL := Same.new (o := .lst []) nL
    refine ⟨_, rfl, b0, rfl, ⟨_, sL.seq sb⟩, ?_⟩
    refine for_list (K := K) (a := b0) (xs := ms.map V.int) (fun i σ H' => ∃ (k : Nat) (y : Option V), σ = [some (.ref a), some (.ref b0), some (.ref L), some (.int k), y] ∧ k ≤ es.length ∧ (∀ t ∈ es.take k, ∀ m ∈ ms.drop i, t.2 ≤ m) ∧ H' L = some (.lst (((ms.take i).map (insE es)).map V.int)) ∧ Same H H')
      ⟨0, none, rfl, Nat.zero_le _, (fun t ht => by rw [List.take_zero] at ht; cases ht), upd_same, sL⟩ (fun i σ H' _ h => by obtain ⟨_, _, _, _, _, _, s⟩ := h; exact s.seq sb) ?_ ?_
    · rintro i x σ H2 hx ⟨k, y, rfl, hk, hall, hL, s2⟩
      obtain ⟨m, hm, rfl⟩ := map_get hx
      have ev2 := ev.same s2
      have sq2 := sameQ s2 sq
      have hmd : m ∈ ms.drop i := by
        obtain ⟨hi, e⟩ := List.getElem?_eq_some_iff.mp hm
        rw [List.drop_eq_getElem_cons hi, ← e]; exact List.mem_cons_self
      have hmi : ∀ n ∈ ms.drop i, m ≤ n := by
        obtain ⟨hi, e⟩ := List.getElem?_eq_some_iff.mp hm
        intro n hn
        have pd' := hms.sublist (List.drop_sublist i ms)
        rw [List.drop_eq_getElem_cons hi, e] at pd' hn
        rcases List.mem_cons.mp hn with rfl | hn
        · exact Int.le_refl _
        · exact (List.pairwise_cons.mp pd').1 n hn
      refine ⟨fun mu σ H' => ∃ k : Nat, mu = es.length - k ∧ σ = [some (.ref a), some (.ref b0), some (.ref L), some (.int k), some (.int m)] ∧ H' = H2 ∧ k ≤ es.length ∧ (∀ t ∈ es.take k, ∀ m ∈ ms.drop i, t.2 ≤ m), ⟨_, k, rfl, rfl, rfl, hk, hall⟩, ?_⟩
      clear hk hall
      rintro mu σ H3 ⟨k, rfl, rfl, rfl, hk, hall⟩
      refine ⟨_, rfl, _, rfl, a, _, rfl, sq2, _, _, rfl, rfl, _, rfl, ?_⟩
      rw [List.length_map, lu]
      have lt : ((ms.take i).map (insE es)).length ≤ 900 := by
        rw [List.length_map]
        exact Nat.le_trans (List.length_take_le' ..) lms
      have fin : (∀ t, es[k]? = some t → m < t.2) → ∀ b : Bool, lastE (es.take k) = b → ∃ (k' : Nat) (y : Option V), ([some (.ref a), some (.ref b0), some (.ref L), some (.int k), some (.int m)] : L2.St) = [some (.ref a), some (.ref b0), some (.ref L), some (.int k'), y] ∧ k' ≤ es.length ∧ (∀ t ∈ es.take k', ∀ m ∈ ms.drop (i + 1), t.2 ≤ m) ∧ (upd H3 L (.lst (((ms.take i).map (insE es)).map V.int ++ [.int (if b = true then 1 else 0)]))) L = some (.lst (((ms.take (i + 1)).map (insE es)).map V.int)) ∧ Same H (upd H3 L (.lst (((ms.take i).map (insE es)).map V.int ++ [.int (if b = true then 1 else 0)]))) := fun h b hb => by
        refine ⟨k, _, rfl, hk, fun t ht n hn => hall t ht n ?_, ?_, fun w o e => by rw [upd_ne (ne_of_none e nL)]; exact s2 _ _ e⟩
        · rw [← List.drop_drop] at hn
          exact List.mem_of_mem_drop hn
        · have e1 : insE es m = if b = true then 1 else 0 := by
            unfold insE
            rw [ev_filter srtd (fun t ht => hall t ht m hmd) h, hb]
          rw [upd_same, take_more hm, List.map_append, List.map_append, ← e1]; rfl
      refine ite2 (fun c1 => ?_) (fun c1 => ?_)
      · have hkl : k < es.length := by have := of_decide_eq_true c1; omega
        obtain ⟨u, hu⟩ : ∃ u, ts[k]? = some u := ⟨_, List.getElem?_eq_getElem (by omega)⟩
        obtain ⟨e, he, et⟩ := Ev.get ev2 hu
        have hat : atI (ts.map V.ref) (k : Int) = some (.ref u) := atI_nat (by rw [List.getElem?_map, hu]; rfl)
        refine ⟨_, rfl, _, rfl, rIxSq sq2 hat ?_⟩
        refine ⟨u, _, 1, _, rfl, rfl, SqT.hp et, rfl, _, rfl, _, _, rfl, rfl, _, rfl, ?_⟩
        refine ite2 (fun c2 => ?_) (fun c2 => ?_)
        · have le : e.2 ≤ m := of_decide_eq_true c2
          refine ⟨fun σ' H' => σ' = [some (.ref a), some (.ref b0), some (.ref L), some (.int ((k : Int) + 1)), some (.int m)] ∧ H' = H3, ?_, ?_⟩
          · rintro σ' H' ⟨rfl, rfl⟩
            refine ⟨es.length - (k + 1), by omega, k + 1, rfl, rfl, rfl, hkl, fun t ht n hn => ?_⟩
            rw [take_more he] at ht
            rcases List.mem_append.mp ht with ht | ht
            · exact hall t ht n hn
            · rw [List.mem_singleton.mp ht]; exact Int.le_trans le (hmi n hn)
          · exact ⟨_, rfl, _, _, rfl, rfl, rfl, rfl⟩
        · have gt : m < e.2 := by have := of_decide_eq_false (Bool.eq_false_iff.mpr c2); omega
          have h : ∀ t, es[k]? = some t → m < t.2 := fun t ht => by rw [he] at ht; cases ht; exact gt
          refine ⟨_, rfl, .inl ⟨rfl, _, SqL.hp hL⟩, _, rfl, _, _, rfl, rfl, _, rfl, ?_⟩
          refine ite2 (fun c3 => ?_) (fun c3 => ?_)
          · have k0 : (0 : Int) < k := of_decide_eq_true c3
            obtain ⟨k', rfl⟩ : ∃ k', k = k' + 1 := ⟨k - 1, by omega⟩
            obtain ⟨u', hu'⟩ : ∃ u, ts[k']? = some u := ⟨_, List.getElem?_eq_getElem (by omega)⟩
            obtain ⟨e', he', et'⟩ := Ev.get ev2 hu'
            have hat' : atI (ts.map V.ref) (((k' + 1 : Nat) : Int) - 1) = some (.ref u') := by
              rw [show ((k' + 1 : Nat) : Int) - 1 = (k' : Int) by omega]
              exact atI_nat (by rw [List.getElem?_map, hu']; rfl)
            refine ⟨_, rfl, _, rfl, _, _, rfl, rfl, rIxSq sq2 hat' ?_⟩
            refine ⟨u', _, 0, _, rfl, rfl, SqT.hp et', rfl, by cases e'.1 <;> rfl, _, rfl, ?_⟩
            rw [evW_in]
            refine ite2 (fun c4 => ?_) (fun c4 => ?_)
            · exact ⟨L, _, _, rfl, rfl, hL, by rw [List.length_map]; exact small1000 (by omega), fin h true ((lastE_take he').trans c4)⟩
            · exact ⟨L, _, _, rfl, rfl, hL, by rw [List.length_map]; exact small1000 (by omega), fin h false ((lastE_take he').trans (Bool.eq_false_iff.mpr c4))⟩
          · have k0 : k = 0 := by have := of_decide_eq_false (Bool.eq_false_iff.mpr c3); omega
            subst k0
            exact ⟨L, _, _, rfl, rfl, hL, by rw [List.length_map]; exact small1000 (by omega), fin h false lastE_zero⟩
      · have h : ∀ t, es[k]? = some t → m < t.2 := fun t ht => by
          have := (List.getElem?_eq_some_iff.mp ht).1
          have := of_decide_eq_false (Bool.eq_false_iff.mpr c1)
          omega
        refine ⟨_, rfl, .inl ⟨rfl, _, SqL.hp hL⟩, _, rfl, _, _, rfl, rfl, _, rfl, ?_⟩
        refine ite2 (fun c3 => ?_) (fun c3 => ?_)
        · have k0 : (0 : Int) < k := of_decide_eq_true c3
          obtain ⟨k', rfl⟩ : ∃ k', k = k' + 1 := ⟨k - 1, by omega⟩
          obtain ⟨u', hu'⟩ : ∃ u, ts[k']? = some u := ⟨_, List.getElem?_eq_getElem (by omega)⟩
          obtain ⟨e', he', et'⟩ := Ev.get ev2 hu'
          have hat' : atI (ts.map V.ref) (((k' + 1 : Nat) : Int) - 1) = some (.ref u') := by
            rw [show ((k' + 1 : Nat) : Int) - 1 = (k' : Int) by omega]
            exact atI_nat (by rw [List.getElem?_map, hu']; rfl)
          refine ⟨_, rfl, _, rfl, _, _, rfl, rfl, rIxSq sq2 hat' ?_⟩
          refine ⟨u', _, 0, _, rfl, rfl, SqT.hp et', rfl, by cases e'.1 <;> rfl, _, rfl, ?_⟩
          rw [evW_in]
          refine ite2 (fun c4 => ?_) (fun c4 => ?_)
          · exact ⟨L, _, _, rfl, rfl, hL, by rw [List.length_map]; exact small1000 (by omega), fin h true ((lastE_take he').trans c4)⟩
          · exact ⟨L, _, _, rfl, rfl, hL, by rw [List.length_map]; exact small1000 (by omega), fin h false ((lastE_take he').trans (Bool.eq_false_iff.mpr c4))⟩
        · have k0 : k = 0 := by have := of_decide_eq_false (Bool.eq_false_iff.mpr c3); omega
          subst k0
          exact ⟨L, _, _, rfl, rfl, hL, by rw [List.length_map]; exact small1000 (by omega), fin h false lastE_zero⟩
    · rintro σ H2 ⟨k, y, rfl, hk, hall, hL, s2⟩
      rw [List.length_map, List.take_length] at hL
      exact ⟨_, rfl, q L H2 nL hL s2⟩
end
/-! check_window -/
abbrev s_check_window : Stmt := topS 32
abbrev sc_check_window_N : List Str := ["window"]
theorem sc_check_window : FnScope sc_check_window_N ["window"] (defScope s_check_window) := ⟨rfl, rfl, rfl, by decide +kernel, rfl, by decide +kernel, by decide +kernel⟩
def sp_check_window (K : PySem.W.Frag) : Sp := fun vs H Q _ => ∃ v : V, vs = [v] ∧ (v = .non ∨ ∃ (t : Addr) (w : Pr), v = .ref t ∧ SqT K H t [.int w.1, .int w.2] ∧ winP w = true) ∧ ∀ H', Same H H' → Q .non H'
section
variable {P : Program} {w : World} {K : PySem.W.Frag} {mg : Str → Option Value} {bh : Heap}
theorem ok_check_window {f : Addr} {fd : FuncData} {f_is_window : Addr} {fd_is_window : FuncData} (B : Blt mg) (T : Txt K mg) (R_is_window : Rdy P w K mg bh "is_window" 4 ["value"] (sp_is_window K) f_is_window fd_is_window) (F : Fun K "check_window" "check_window" s_check_window f fd) : FnOk P w K mg bh CX0 5 f fd ["window"] (sp_check_window K) := by
  refine F.ok sc_check_window (fun vs H Q E h => ?_) (fun cdv A outer s H vs Q E hr h => ?_)
  · obtain ⟨v, rfl, _⟩ := h
    rfl
  · obtain ⟨v, rfl, hv, q⟩ := h
    refine ⟨_, (pss_one (ps_if (PW.pt (pw_and (pt_cmpR op_notN (pv 0) pe_non (nomark _)) (pw_and1 (pt_not (pt_val (pe_rdy R_is_window hr (by decide) (by rfl) (pa_cons (pv 0) pa_nil)))))))
      (pss_one ps_never)
      pss_nil)), ?_⟩
    rcases hv with rfl | ⟨t, w, rfl, sq, hw⟩
    · exact ⟨_, rfl, rfl, _, rfl, iteF (q _ (Same.refl H))⟩
    · exact ⟨_, rfl, rfl, _, rfl, iteT ⟨_, rfl, t, w, rfl, sq, hw, fun H1 s1 => ⟨_, rfl, iteF (q _ s1)⟩⟩⟩
end
/-! check_word -/
abbrev s_check_word : Stmt := topS 37
abbrev sc_check_word_N : List Str := ["word", "words"]
theorem sc_check_word : FnScope sc_check_word_N ["word", "words"] (defScope s_check_word) := ⟨rfl, rfl, rfl, by decide +kernel, rfl, by decide +kernel, by decide +kernel⟩
def sp_check_word (K : PySem.W.Frag) : Sp := fun vs H Q _ => ∃ (v : V) (a : Addr) (xs : List V), vs = [v, .ref a] ∧ SqT K H a xs ∧ flatV v = true ∧ xs.all flatV = true ∧ inV v xs = true ∧ Q .non H
section
variable {P : Program} {w : World} {K : PySem.W.Frag} {mg : Str → Option Value} {bh : Heap}
theorem ok_check_word {f : Addr} {fd : FuncData}  (B : Blt mg) (T : Txt K mg)  (F : Fun K "check_word" "check_word" s_check_word f fd) : FnOk P w K mg bh CX0 1 f fd ["word", "words"] (sp_check_word K) := by
  refine F.ok sc_check_word (fun vs H Q E h => ?_) (fun cdv A outer s H vs Q E hr h => ?_)
  · obtain ⟨v, a, xs, rfl, _⟩ := h
    rfl
  · obtain ⟨v, a, xs, rfl, sq, f1, f2, f3, q⟩ := h
    refine ⟨_, (pss_one (ps_if (pt_cmpR op_notIn_seq (pv 0) (pv 1) (by rfl))
      (pss_one ps_never)
      pss_nil)), ?_⟩
    refine ⟨_, rfl, _, rfl, a, xs, rfl, .inr sq, f1, f2, _, rfl, ?_⟩
    rw [f3]
    exact iteF q
end
/-! Moments.__init__ -/
abbrev s_Moments_init : Stmt := inClass (topS 40) 0
abbrev sc_Moments_init_N : List Str := ["self", "which", "within", "form", "ends"]
theorem sc_Moments_init : FnScope sc_Moments_init_N ["self", "which", "within", "form", "ends"] (defScope s_Moments_init) := ⟨rfl, rfl, rfl, by decide +kernel, rfl, by decide +kernel, by decide +kernel⟩
def sp_Moments_init (K : PySem.W.Frag) (C : Addr) : Sp := fun vs H Q _ => ∃ (a dx : Addr) (t : Nat) (wi : Bool) (fm : Str) (z : Bool), vs = [.ref a, wndV t, .bl wi, .str fm, endsV z] ∧ t < 7 ∧ inV (.str fm) WFm = true ∧ H a = some (.ins C dx []) ∧ ∀ H', Kp a H H' → H' a = some (.ins C dx (momFs t wi fm z)) → Q .non H'
section
variable {P : Program} {w : World} {K : PySem.W.Frag} {mg : Str → Option Value} {bh : Heap}
theorem ok_Moments_init {f : Addr} {fd : FuncData} {C : Addr} {f_check_word : Addr} {fd_check_word : FuncData} {f_check_ends : Addr} {fd_check_ends : FuncData} (B : Blt mg) (T : Txt K mg) (AC : MomC K C) (AW : WordsT K mg "TIMES" [.str "some", .str "none", .str "all", .str "one", .str "two", .str "each", .str "inside"]) (AF : WordsT K mg "FORMS" [.str "any", .str "full", .str "one", .str "cut"]) (R_check_word : Rdy P w K mg bh "check_word" 1 ["word", "words"] (sp_check_word K) f_check_word fd_check_word) (R_check_ends : Rdy P w K mg bh "check_ends" 1 ["ends"] (sp_check_ends K) f_check_ends fd_check_ends) (F : FunD K "__init__" "Moments.__init__" (defArgs s_Moments_init) (defBody s_Moments_init) (defScope s_Moments_init) [] [("within", .bl false), ("form", .str "one"), ("ends", .str "half")] f fd) : FnOk P w K mg bh CX0 2 f fd ["self", "which", "within", "form", "ends"] (sp_Moments_init K C) := by
  refine okDK F sc_Moments_init (fun vs H Q E h => ?_) (fun cdv A outer s H vs Q E hr h => ?_)
  · obtain ⟨a, dx, t, wi, fm, z, rfl, _⟩ := h
    rfl
  · obtain ⟨a, dx, t, wi, fm, z, rfl, t7, hfm, ha, q⟩ := h
    refine ⟨_, (pss_cons (ps_expr (pe_rdy R_check_word hr (by decide) (by rfl) (pa_cons (pv 1) (pa_cons (pe_words' AW (by rfl)) pa_nil))))
      (pss_cons (ps_expr (pe_rdy R_check_word hr (by decide) (by rfl) (pa_cons (pv 3) (pa_cons (pe_words' AF (by rfl)) pa_nil))))
      (pss_cons (ps_expr (pe_rdy R_check_ends hr (by decide) (by rfl) (pa_cons (pv 4) pa_nil)))
      (pss_cons (ps_fld (pv 0) (pv 1) rfl)
      (pss_cons (ps_fld (pv 0) (pv 2) rfl)
      (pss_cons (ps_fld (pv 0) (pv 3) rfl)
      (pss_one (ps_fld (pv 0) (pv 4) rfl)))))))), ?_⟩
    refine ⟨_, rfl, fun A hA => ⟨_, A, _, rfl, hA, (wnd_mem t7).1, by decide +kernel, (wnd_mem t7).2, ?_⟩⟩
    refine ⟨_, rfl, fun A2 hA2 => ⟨_, A2, _, rfl, hA2, rfl, by decide +kernel, hfm, ?_⟩⟩
    refine ⟨_, rfl, z, rfl, fun H1 s1 => ?_⟩
    have h1 := s1 _ _ ha
    refine ⟨_, rfl, _, rfl, a, C, dx, _, rfl, h1, AC.cl, AC.nH, (by show 0 < 1000; decide), ?_⟩
    refine ⟨_, rfl, _, rfl, a, C, dx, _, rfl, upd_same, AC.cl, AC.nW, (by show 1 < 1000; decide), ?_⟩
    refine ⟨_, rfl, _, rfl, a, C, dx, _, rfl, upd_same, AC.cl, AC.nF, (by show 2 < 1000; decide), ?_⟩
    refine ⟨_, rfl, _, rfl, a, C, dx, _, rfl, upd_same, AC.cl, AC.nE, (by show 3 < 1000; decide), ?_⟩
    refine q _ ?_ (by rw [upd_same, mom_put])
    intro b o hb e
    rw [upd_ne hb, upd_ne hb, upd_ne hb, upd_ne hb]
    exact s1 _ _ e
end
/-! Moments.uses_window -/
abbrev s_Moments_uses_window : Stmt := inClass (topS 40) 1
abbrev sc_Moments_uses_window_N : List Str := ["self"]
theorem sc_Moments_uses_window : FnScope sc_Moments_uses_window_N ["self"] (defScope s_Moments_uses_window) := ⟨rfl, rfl, rfl, by decide +kernel, rfl, by decide +kernel, by decide +kernel⟩
def sp_Moments_uses (K : PySem.W.Frag) (C : Addr) : Sp := fun vs H Q _ => ∃ (a : Addr) (t : Nat) (wi : Bool) (fm : Str) (z : Bool), vs = [.ref a] ∧ IsMom H a C t wi fm z ∧ ∀ H', Same H H' → Q (.bl (wi || decide (V.str fm = .str "cut"))) H'
section
variable {P : Program} {w : World} {K : PySem.W.Frag} {mg : Str → Option Value} {bh : Heap}
theorem ok_Moments_uses_window {f : Addr} {fd : FuncData} {C : Addr} (B : Blt mg) (T : Txt K mg) (AC : MomC K C) (F : Fun K "uses_window" "Moments.uses_window" s_Moments_uses_window f fd) : FnOk P w K mg bh CX0 2 f fd ["self"] (sp_Moments_uses K C) := by
  refine F.ok sc_Moments_uses_window (fun vs H Q E h => ?_) (fun cdv A outer s H vs Q E hr h => ?_)
  · obtain ⟨a, t, wi, fm, z, rfl, _⟩ := h
    rfl
  · obtain ⟨a, t, wi, fm, z, rfl, ⟨dx, ha⟩, q⟩ := h
    refine ⟨_, (pss_one (ps_ret (pe_or (pe_fld (pv 0) rfl) (pe_one (pe_cmpR op_eq (pe_fld (pv 0) rfl) pe_str (nomark _)))))), ?_⟩
    refine ⟨_, rfl, a, C, dx, _, _, rfl, ha, AC.cl, AC.nW, mom_within t wi fm z, _, rfl, ?_⟩
    have e := q _ (Same.refl H)
    refine ite2 (fun c => ?_) (fun c => ?_)
    · rw [c, Bool.true_or] at e
      exact e
    · rw [Bool.eq_false_iff.mpr c, Bool.false_or] at e
      exact ⟨_, rfl, a, C, dx, _, _, rfl, ha, AC.cl, AC.nF, mom_form t wi fm z, rfl, e⟩
end
/-! check_need -/
abbrev s_check_need : Stmt := topS 38
abbrev sc_check_need_N : List Str := ["wish", "window"]
theorem sc_check_need : FnScope sc_check_need_N ["wish", "window"] (defScope s_check_need) := ⟨rfl, rfl, rfl, by decide +kernel, rfl, by decide +kernel, by decide +kernel⟩
def sp_check_need (K : PySem.W.Frag) (C : Addr) : Sp := fun vs H Q _ => ∃ (a : Addr) (t : Nat) (wi : Bool) (fm : Str) (z : Bool) (v : V), vs = [.ref a, v] ∧ IsMom H a C t wi fm z ∧ ((v = .non ∧ (wi || decide (V.str fm = .str "cut")) = false) ∨ ∃ u, v = .ref u) ∧ ∀ H', Same H H' → Q .non H'
section
variable {P : Program} {w : World} {K : PySem.W.Frag} {mg : Str → Option Value} {bh : Heap}
theorem ok_check_need {f : Addr} {fd : FuncData} {C : Addr} {p_uses f_uses : Addr} {fd_uses : FuncData} (B : Blt mg) (T : Txt K mg) (AC : MomC K C) (RU : RdyPr P w K mg bh C "uses_window" 2 (sp_Moments_uses K C) p_uses f_uses fd_uses) (F : Fun K "check_need" "check_need" s_check_need f fd) : FnOk P w K mg bh CX0 4 f fd ["wish", "window"] (sp_check_need K C) := by
  refine F.ok sc_check_need (fun vs H Q E h => ?_) (fun cdv A outer s H vs Q E hr h => ?_)
  · obtain ⟨a, t, wi, fm, z, v, rfl, _⟩ := h
    rfl
  · obtain ⟨a, t, wi, fm, z, v, rfl, ⟨dx, ha⟩, hv, q⟩ := h
    refine ⟨_, (pss_one (ps_if (PW.pt (pw_and (pt_cmpR op_isN (pv 1) pe_non (nomark _)) (pw_and1 (pt_val (pe_prop (pv 0) AC.cl RU.pr RU.ok (hr.mono (by decide)) RU.bd .nil pass0 (by rfl))))))
      (pss_one ps_never)
      pss_nil)), ?_⟩
    rcases hv with ⟨rfl, ht⟩ | ⟨u, rfl⟩
    · refine ⟨_, rfl, rfl, _, rfl, iteT ?_⟩
      exact ⟨_, rfl, a, dx, _, rfl, ha, a, t, wi, fm, z, rfl, ⟨dx, ha⟩, fun H' s' => ⟨_, rfl, iteFe ht (q H' s')⟩⟩
    · exact ⟨_, rfl, rfl, _, rfl, iteF (q H (Same.refl H))⟩
end
/-! wanted_at -/
abbrev s_wanted_at : Stmt := topS 39
abbrev sc_wanted_at_N : List Str := ["wish", "items", "window", "moments", "due", "held", "count", "one", "other"]
theorem sc_wanted_at : FnScope sc_wanted_at_N ["wish", "items", "window", "moments"] (defScope s_wanted_at) := ⟨rfl, rfl, rfl, by decide +kernel, rfl, by decide +kernel, by decide +kernel⟩
def sp_wanted_at (K : PySem.W.Frag) (C : Addr) : Sp := fun vs H Q _ => ∃ (o a b : Addr) (v : V) (ts : List Addr) (t : Nat) (wi : Bool) (fm : Str) (z : Bool) (w : Pr) (ms us : List Int), vs = [.ref o, .ref a, v, .ref b] ∧ t < 7 ∧ IsMom H o C t wi fm z ∧ Sq K H a (ts.map V.ref) ∧ ((t = 6 ∧ ∃ es, Ev H ts es ∧ es.Pairwise (fun x y => x.2 ≤ y.2) ∧ us = ms.map (insE es)) ∨ (t < 6 ∧ ∃ ps, Pd H ts ps ∧ (∀ p ∈ ps, p.1 ≤ p.2) ∧ ps.length ≤ 400 ∧ us = ms.map (wtdT t z ps))) ∧ (wi = false ∨ ∃ u, v = .ref u ∧ H u = some (.tup [.int w.1, .int w.2]) ∧ w.1 ≤ w.2) ∧ SqL K H b (ms.map V.int) ∧ ms.Pairwise (· ≤ ·) ∧ ms.length ≤ 900 ∧ ∀ r H', H r = none → H' r = some (.lst ((if wi then List.zipWith (· * ·) us (ms.map (hldN z [w])) else us).map V.int)) → Same H H' → Q (.ref r) H'
section
variable {P : Program} {w : World} {K : PySem.W.Frag} {mg : Str → Option Value} {bh : Heap}
theorem ok_wanted_at {f : Addr} {fd : FuncData} {C : Addr} {f_insides_at : Addr} {fd_insides_at : FuncData} {f_counts_at : Addr} {fd_counts_at : FuncData} {f_wanted_times : Addr} {fd_wanted_times : FuncData} (B : Blt mg) (T : Txt K mg) (AC : MomC K C) (R_insides_at : Rdy P w K mg bh "insides_at" 1 ["events", "moments"] (sp_insides_at K) f_insides_at fd_insides_at) (R_counts_at : Rdy P w K mg bh "counts_at" 4 ["pairs", "moments", "ends"] (sp_counts_at K) f_counts_at fd_counts_at) (R_wanted_times : Rdy P w K mg bh "wanted_times" 1 ["which", "held", "many"] (sp_wanted_times K) f_wanted_times fd_wanted_times) (F : Fun K "wanted_at" "wanted_at" s_wanted_at f fd) : FnOk P w K mg bh CX0 5 f fd ["wish", "items", "window", "moments"] (sp_wanted_at K C) := by
  refine F.ok sc_wanted_at (fun vs H Q E h => ?_) (fun cdv A outer s H vs Q E hr h => ?_)
  · obtain ⟨o, a, b, v, ts, t, wi, fm, z, w, ms, us, rfl, _⟩ := h
    rfl
  · obtain ⟨o, a, b, v, ts, t, wi, fm, z, w, ms, us, rfl, t7, ⟨dx, ho⟩, sq, hc, hv, sb, hms, lms, q⟩ := h
    refine ⟨_, (pss_mid (ps_if (pt_cmpR op_eq (pe_fldK (K := K) (pv 0)) pe_str (nomark _))
      (pss_one (ps_set (i := 4) sc_wanted_at.nd rfl (Or.inl rfl) (pe_rdy R_insides_at hr (by decide) (by rfl) (pa_cons (pv 1) (pa_cons (pv 3) pa_nil)))))
      (pss_cons (ps_set (i := 5) sc_wanted_at.nd rfl (Or.inl rfl) (pe_rdy R_counts_at hr (by decide) (by rfl) (pa_cons (pv 1) (pa_cons (pv 3) (pa_cons (pe_fldK (K := K) (pv 0)) pa_nil)))))
      (pss_one (ps_setLc (i := 4) (own := [("count", 6)]) (by rfl) sc_wanted_at.nd rfl rfl (sw_true rfl rfl rfl (by decide +kernel)) (pi_sq (pv 5)) (blkOk_by (own := [("count", 6)]) (N := sc_wanted_at_N) (sc := defScope s_wanted_at) (by decide +kernel)) (fun _ _ _ _ _ => (pg_name (i := 6) sc_wanted_at.nd rfl (Or.inl rfl))) (fun _ _ _ _ _ => pts_nil) (fun _ _ _ _ _ => (pe_rdy R_wanted_times hr (by decide) (by rfl) (pa_cons (pe_fldK (K := K) (pv 0)) (pa_cons (pv 6) (pa_cons (pe_callB (call_lenK (K := K)) (by rfl) B.b_len (by decide +kernel) (pa_cons (pv 1) pa_nil)) pa_nil)))))))))
      (pss_mid (ps_if (pt_not (pt_val (pe_fldK (K := K) (pv 0))))
      (pss_one (ps_ret (pv 4)))
      pss_nil)
      (pss_one (ps_ret (pe_lc (own := [("one", 7), ("other", 8)]) (g := (gTup K 2 (gCons (gName 7) (gCons (gName 8) gNil)))) (by rfl) sc_wanted_at.nd (pi_zip (by rfl) B.b_zip (pa_cons (pv 4) (pa_cons (pe_rdy R_counts_at hr (by decide) (by rfl) (pa_cons (pe_lst (pa_cons (pv 2) pa_nil)) (pa_cons (pv 3) (pa_cons (pe_fldK (K := K) (pv 0)) pa_nil)))) pa_nil))) (blkOk_by (own := [("one", 7), ("other", 8)]) (N := sc_wanted_at_N) (sc := defScope s_wanted_at) (by decide +kernel)) (fun _ _ _ _ _ => (pg_tup (by rfl) (pgs_cons (pg_name (i := 7) sc_wanted_at.nd rfl (Or.inl rfl)) (pgs_cons (pg_name (i := 8) sc_wanted_at.nd rfl (Or.inl rfl)) pgs_nil)))) (fun _ _ _ _ _ => pts_nil) (fun _ _ _ _ _ => (pe_op op_mul (pv 7) (pv 8)))))))), ?_⟩
    refine ⟨fun σ H' => ∃ y5 y6 y7 y8 d, σ = [some (.ref o), some (.ref a), some v, some (.ref b), some (.ref d), y5, y6, y7, y8] ∧ H' d = some (.lst (us.map V.int)) ∧ Same H H' ∧ H d = none, ?_, ?_⟩
    · refine ⟨_, rfl, o, C, dx, _, _, rfl, ho, AC.cl, AC.nH, mom_which t wi fm z, rfl, _, rfl, ?_⟩
      rw [wnd_inside7 t7]
      refine ite2 (fun c => ?_) (fun c => ?_)
      · obtain rfl := of_decide_eq_true c
        rcases hc with ⟨_, es, ev, srtd, rfl⟩ | ⟨h6, _⟩
        · exact ⟨_, rfl, _, rfl, a, b, ts, es, ms, rfl, sq, ev, srtd, sb, hms, lms, fun d H1 nd hd s1 => ⟨_, _, _, _, d, rfl, hd, s1, nd⟩⟩
        · omega
      · rcases hc with ⟨e6, _⟩ | ⟨t6, ps, pd, hle, hlen, rfl⟩
        · exact absurd (decide_eq_true e6) c
        · refine ⟨_, rfl, _, rfl, _, rfl, o, C, dx, _, _, rfl, ho, AC.cl, AC.nE, mom_ends t wi fm z, a, b, ts, ps, ms, z, rfl, sq, pd, hle, hlen, sb, hms, lms, fun h H1 nh hh s1 => ?_⟩
          have lts := pd.len
          refine ⟨_, rfl, h, _, rfl, .inl (SqL.hp hh), fun J wk D nD => ?_⟩
          refine lc_it wk (fun i H' => Same H1 H' ∧ H' D = some (.lst (((ms.take i).map (wtdT t z ps)).map V.int))) ⟨Same.new nD, upd_same⟩ (fun i H' _ h => sameK h.1) ?_ ?_
          · rintro i x H2 H3 hi ⟨s2, hD⟩ ⟨rfl, hx⟩
            obtain ⟨n, hn, rfl⟩ := map_get hx
            obtain ⟨m, hm, rfl⟩ := map_get hn
            have s12 := s1.trans s2
            refine ⟨rfl, ?_⟩
            refine ⟨_, rfl, o, C, dx, _, _, rfl, s12 _ _ ho, AC.cl, AC.nH, mom_which t wi fm z, _, rfl, _, rfl, a, _, rfl, sameQ s12 sq, t, hldN z ps m, _, rfl, t6, ?_⟩
            refine ⟨_, hD, by rw [List.length_map, List.length_map]; exact small1000 (Nat.le_trans (List.length_take_le' ..) (by omega)), fun w o e => by rw [upd_ne (ne_of_none e nD)]; exact s2 _ _ e, ?_⟩
            rw [upd_same, take_more hm, List.map_append, List.map_append, List.length_map, lts]; rfl
          · rintro H2 ⟨s2, hD⟩
            rw [List.length_map, List.length_map, List.take_length] at hD
            exact ⟨_, _, _, _, D, rfl, hD, s1.trans s2, s1.free nD⟩
    rintro σ H1 ⟨y5, y6, y7, y8, d, rfl, hd, s1, nd⟩
    refine ⟨fun σ' H' => wi = true ∧ σ' = [some (.ref o), some (.ref a), some v, some (.ref b), some (.ref d), y5, y6, y7, y8] ∧ H' = H1, ?_, ?_⟩
    · refine ⟨_, rfl, o, C, dx, _, _, rfl, s1 _ _ ho, AC.cl, AC.nW, mom_within t wi fm z, _, rfl, ?_⟩
      refine ite2 (fun c => ?_) (fun c => ?_)
      · have c : wi = false := by simpa using c
        subst c
        exact ⟨_, rfl, q d H1 nd hd s1⟩
      · exact ⟨by simpa using c, rfl, rfl⟩
    rintro σ H2 ⟨rfl, rfl, rfl⟩
    obtain ⟨u, rfl, hu, wle⟩ := hv.resolve_left (fun z => nomatch z)
    refine ⟨_, rfl, _, rfl, (by show 1 ≤ sizeLine; decide), fun W nW => ?_⟩
    have sW := Same.new (o := .lst [.ref u]) nW
    have s2 := s1.trans sW
    refine ⟨_, rfl, _, rfl, o, C, dx, _, _, rfl, s2 _ _ ho, AC.cl, AC.nE, mom_ends t true fm z, W, b, [u], [w], ms, z, rfl, .inl (SqL.hp upd_same), ⟨s2 _ _ hu, trivial⟩, (fun p hp => by rw [List.mem_singleton.mp hp]; exact wle), (by show 1 ≤ 400; omega), s2.seq sb, hms, lms, fun r H3 nr hr3 s3 => ?_⟩
    obtain ⟨g, rfl⟩ : ∃ g, us = ms.map g := by
      rcases hc with ⟨_, es, _, _, e⟩ | ⟨_, ps, _, _, _, e⟩
      · exact ⟨_, e⟩
      · exact ⟨_, e⟩
    rw [if_pos rfl, zipW] at q
    have s23 := sW.trans s3
    have s03 := s2.trans s3
    refine ⟨d, r, _, _, rfl, SqL.hp (s23 _ _ hd), SqL.hp hr3, fun D nD => ?_⟩
    refine lc_it (walk_zip (n := ms.length) (by simp)) (fun i H' => Same H3 H' ∧ H' D = some (.lst (((ms.take i).map fun m => g m * hldN z [w] m).map V.int))) ⟨Same.new nD, upd_same⟩ (fun i H' _ h => ⟨SqL.hp (h.1 _ _ (s23 _ _ hd)), SqL.hp (h.1 _ _ hr3)⟩) ?_ ?_
    · rintro i x H4 H5 hi ⟨s4, hD⟩ ⟨T, x1, y1, rfl, nT, rfl, e1, e2⟩
      obtain ⟨n1, h1, rfl⟩ := map_get e1
      obtain ⟨m, hm, rfl⟩ := map_get h1
      obtain ⟨n2, h2, rfl⟩ := map_get e2
      obtain ⟨m2, hm2, rfl⟩ := map_get h2
      obtain rfl : m = m2 := Option.some.inj (hm.symm.trans hm2)
      have sT := Same.new (o := .tup [.int (g m), .int (hldN z [w] m)]) nT
      refine ⟨T, _, rfl, SqT.hp upd_same, rfl, _, _, rfl, _, _, rfl, rfl, rfl, ?_⟩
      have b1 : -2 ^ 64 < hldN z [w] m ∧ hldN z [w] m < 2 ^ 64 := by
        rw [hld1]
        split <;> decide
      refine ⟨_, rfl, _, rfl, _, _, rfl, rfl, .inr b1, ?_⟩
      have hDT := sT _ _ hD
      refine ⟨_, hDT, by rw [List.length_map, List.length_map]; exact small1000 (Nat.le_trans (List.length_take_le' ..) (by omega)), fun w o e => by rw [upd_ne (ne_of_none e nD)]; exact sT _ _ (s4 _ _ e), ?_⟩
      rw [upd_same, take_more hm, List.map_append, List.map_append]; rfl
    · rintro H4 ⟨s4, hD⟩
      rw [List.take_length] at hD
      exact q D H4 (s03.free nD) hD (s03.trans s4)
end
/-! Moments.wanted -/
abbrev s_Moments_wanted : Stmt := inClass (topS 40) 6
abbrev sc_Moments_wanted_N : List Str := ["self", "items", "moment", "window"]
theorem sc_Moments_wanted : FnScope sc_Moments_wanted_N ["self", "items", "moment", "window"] (defScope s_Moments_wanted) := ⟨rfl, rfl, rfl, by decide +kernel, rfl, by decide +kernel, by decide +kernel⟩
def sp_Moments_wanted (K : PySem.W.Frag) (C : Addr) : Sp := fun vs H Q _ => ∃ (o a : Addr) (v : V) (ts : List Addr) (t : Nat) (wi : Bool) (fm : Str) (z : Bool) (w : Pr) (m u : Int), vs = [.ref o, .ref a, .int m, v] ∧ t < 7 ∧ IsMom H o C t wi fm z ∧ Sq K H a (ts.map V.ref) ∧ ((t = 6 ∧ ∃ es, Ev H ts es ∧ (∀ e ∈ es, evP e = true) ∧ es.Pairwise (fun x y => x.2 ≤ y.2) ∧ u = insE es m) ∨ (t < 6 ∧ ∃ ps, Pd H ts ps ∧ (∀ p ∈ ps, strP p = true) ∧ ps.length ≤ 400 ∧ u = wtdT t z ps m)) ∧ -10000000000000000000000000000000 < m ∧ m < 10000000000000000000000000000000 ∧ ((v = .non ∧ wi = false ∧ decide (V.str fm = .str "cut") = false) ∨ ∃ x, v = .ref x ∧ H x = some (.tup [.int w.1, .int w.2]) ∧ winP w = true) ∧ ∀ H', Same H H' → Q (.int (if wi then u * hldN z [w] m else u)) H'
section
variable {P : Program} {w : World} {K : PySem.W.Frag} {mg : Str → Option Value} {bh : Heap}
theorem ok_Moments_wanted {f : Addr} {fd : FuncData} {C : Addr} {f_check_moment : Addr} {fd_check_moment : FuncData} {f_check_window : Addr} {fd_check_window : FuncData} {f_check_need : Addr} {fd_check_need : FuncData} {f_check_events : Addr} {fd_check_events : FuncData} {f_check_stretches : Addr} {fd_check_stretches : FuncData} {f_wanted_at : Addr} {fd_wanted_at : FuncData} (B : Blt mg) (T : Txt K mg) (AC : MomC K C) (R_check_moment : Rdy P w K mg bh "check_moment" 3 ["moment"] (sp_check_moment K) f_check_moment fd_check_moment) (R_check_window : Rdy P w K mg bh "check_window" 5 ["window"] (sp_check_window K) f_check_window fd_check_window) (R_check_need : Rdy P w K mg bh "check_need" 4 ["wish", "window"] (sp_check_need K C) f_check_need fd_check_need) (R_check_events : Rdy P w K mg bh "check_events" 3 ["events"] (sp_check_events K) f_check_events fd_check_events) (R_check_stretches : Rdy P w K mg bh "check_stretches" 5 ["spans"] (sp_check_stretches K) f_check_stretches fd_check_stretches) (R_wanted_at : Rdy P w K mg bh "wanted_at" 5 ["wish", "items", "window", "moments"] (sp_wanted_at K C) f_wanted_at fd_wanted_at) (F : FunD K "wanted" "Moments.wanted" (defArgs s_Moments_wanted) (defBody s_Moments_wanted) (defScope s_Moments_wanted) [.non] [] f fd) : FnOk P w K mg bh CX0 6 f fd ["self", "items", "moment", "window"] (sp_Moments_wanted K C) := by
  refine okD F sc_Moments_wanted (fun vs H Q E h => ?_) (fun cdv A outer s H vs Q E hr h => ?_)
  · obtain ⟨o, a, v, ts, t, wi, fm, z, w, m, u, rfl, _⟩ := h
    rfl
  · obtain ⟨o, a, v, ts, t, wi, fm, z, w, m, u, rfl, t7, ⟨dx, ho⟩, sq, hc, m0, m1, hv, q⟩ := h
    refine ⟨_, (pss_mid (ps_if (pt_cmpR op_eq (pe_fldK (K := K) (pv 0)) pe_str (nomark _))
      (pss_one (ps_expr (pe_rdy R_check_events hr (by decide) (by rfl) (pa_cons (pv 1) pa_nil))))
      (pss_one (ps_expr (pe_rdy R_check_stretches hr (by decide) (by rfl) (pa_cons (pv 1) pa_nil)))))
      (pss_cons (ps_expr (pe_rdy R_check_moment hr (by decide) (by rfl) (pa_cons (pv 2) pa_nil)))
      (pss_cons (ps_expr (pe_rdy R_check_window hr (by decide) (by rfl) (pa_cons (pv 3) pa_nil)))
      (pss_cons (ps_expr (pe_rdy R_check_need hr (by decide) (by rfl) (pa_cons (pv 0) (pa_cons (pv 3) pa_nil))))
      (pss_one (ps_ret (pe_ix ix_list (pe_rdy R_wanted_at hr (by decide) (by rfl) (pa_cons (pv 0) (pa_cons (pv 1) (pa_cons (pv 3) (pa_cons (pe_lst (pa_cons (pv 2) pa_nil)) pa_nil))))) pe_int (fun _ _ => rfl)))))))), ?_⟩
    refine ⟨fun σ H' => σ = [some (.ref o), some (.ref a), some (.int m), some v] ∧ Same H H', ?_, ?_⟩
    · refine ⟨_, rfl, o, C, dx, _, _, rfl, ho, AC.cl, AC.nH, mom_which t wi fm z, rfl, _, rfl, ?_⟩
      rw [wnd_inside7 t7]
      refine ite2 (fun c => ?_) (fun c => ?_)
      · obtain rfl := of_decide_eq_true c
        rcases hc with ⟨_, es, ev, hes, srtd, rfl⟩ | ⟨h6, _⟩
        · exact ⟨_, rfl, a, ts, es, rfl, sq, ev, hes, fun H1 s1 => ⟨rfl, s1⟩⟩
        · omega
      · rcases hc with ⟨e6, _⟩ | ⟨t6, ps, pd, hst, hlen, rfl⟩
        · exact absurd (decide_eq_true e6) c
        · refine ⟨_, rfl, a, _, _, rfl, sq, pd.dp, ?_, fun H1 s1 => ⟨rfl, s1⟩⟩
          intro d hd
          obtain ⟨p, hp, rfl⟩ := List.mem_map.mp hd
          exact hst p hp
    rintro σ H1 ⟨rfl, s1⟩
    refine ⟨_, rfl, m, rfl, m0, m1, ?_⟩
    refine ⟨_, rfl, v, rfl, ?_, fun H2 s2 => ?_⟩
    · rcases hv with ⟨rfl, _⟩ | ⟨x, rfl, hx, hw⟩
      · exact .inl rfl
      · exact .inr ⟨x, w, rfl, SqT.hp (s1 _ _ hx), hw⟩
    have s12 := s1.trans s2
    refine ⟨_, rfl, _, rfl, o, t, wi, fm, z, v, rfl, ⟨dx, s12 _ _ ho⟩, ?_, fun H3 s3 => ?_⟩
    · rcases hv with ⟨rfl, h2, h3⟩ | ⟨x, rfl, hx, hw⟩
      · exact .inl ⟨rfl, by rw [h2, h3]; rfl⟩
      · exact .inr ⟨x, rfl⟩
    have s13 := s12.trans s3
    refine ⟨_, rfl, _, rfl, _, rfl, _, rfl, (by show 1 ≤ sizeLine; decide), fun M nM => ?_⟩
    have sM := Same.new (o := .lst [.int m]) nM
    have s14 := s13.trans sM
    refine ⟨o, a, M, v, ts, t, wi, fm, z, w, [m], [u], rfl, t7, ⟨dx, s14 _ _ ho⟩, sameQ s14 sq, ?_, ?_, SqL.hp upd_same, List.pairwise_singleton .., (by show 1 ≤ 900; omega), fun r H5 nr hr5 s5 => ?_⟩
    · rcases hc with ⟨e6, es, ev, hes, srtd, rfl⟩ | ⟨h6, ps, pd, hst, hlen, rfl⟩
      · exact .inl ⟨e6, es, ev.same s14, srtd, rfl⟩
      · exact .inr ⟨h6, ps, pd.same s14, fun p hp => strP_le (hst p hp), hlen, rfl⟩
    · rcases hv with ⟨rfl, h2, h3⟩ | ⟨x, rfl, hx, hw⟩
      · exact .inl h2
      · exact .inr ⟨x, rfl, s14 _ _ hx, Int.le_of_lt (winP_lt hw)⟩
    refine ⟨r, _, 0, _, rfl, rfl, SqL.hp hr5, ?_, q H5 (s14.trans s5)⟩
    cases wi <;> rfl
end
/-! _law_bag -/
abbrev s_l_bag : Stmt := topS 42
abbrev sc_l_bag_N : List Str := ["_law_script", "_law_at", "_law_cell", "_law_mixed", "_law_k", "_law_one"]
theorem sc_l_bag : FnScope sc_l_bag_N ["_law_script", "_law_at"] (defScope s_l_bag) := ⟨rfl, rfl, rfl, by decide +kernel, rfl, by decide +kernel, by decide +kernel⟩
def sp_l_bag (K : PySem.W.Frag) : Sp := fun vs H Q _ => ∃ (a : Addr) (ns : List Int) (i : Int), vs = [.ref a, .int i] ∧ SqL K H a (ns.map V.int) ∧ ns.length ≤ 63 ∧ 0 ≤ i ∧ i ≤ 63 ∧ ∀ p H', H p = none → BagN H' p → Same H H' → Q (.ref p) H'
section
variable {P : Program} {w : World} {K : PySem.W.Frag} {mg : Str → Option Value} {bh : Heap}
theorem ok_l_bag {f : Addr} {fd : FuncData}  (B : Blt mg) (T : Txt K mg)  (F : Fun K "_law_bag" "_law_bag" s_l_bag f fd) : FnOk P w K mg bh CX0 1 f fd ["_law_script", "_law_at"] (sp_l_bag K) := by
  refine F.ok sc_l_bag (fun vs H Q E h => ?_) (fun cdv A outer s H vs Q E hr h => ?_)
  · obtain ⟨a, ns, i, rfl, _⟩ := h
    rfl
  · obtain ⟨a, ns, i, rfl, sq, hn, i0, i63, q⟩ := h
    refine ⟨_, (pss_mid (ps_set (i := 2) sc_l_bag.nd rfl (Or.inl rfl) (pe_ifExp (pt_cmpR op_lt (pv 1) (pe_callB call_len_seq (by rfl) B.b_len (by decide +kernel) (pa_cons (pv 0) pa_nil)) (nomark _)) (pe_ix ix_list (pv 0) (pv 1) (fun _ _ => rfl)) pe_int))
      (pss_cons (ps_set (i := 3) sc_l_bag.nd rfl (Or.inl rfl) (pe_op op_add (pe_op op_mul pe_int (pv 1)) pe_int))
      (pss_cons (ps_for PassesOwn.never rfl (pi_en (by rfl) B.b_enumerate (pa_cons (pe_slice sl_list (pv 0) po_none (po_some pe_int)) pa_nil)) (pg_tup (by rfl) (pgs_cons (pg_name (i := 4) sc_l_bag.nd rfl (Or.inl rfl)) (pgs_cons (pg_name (i := 5) sc_l_bag.nd rfl (Or.inl rfl)) pgs_nil)))
      (pss_one (ps_set (i := 3) sc_l_bag.nd rfl (Or.inl rfl) (pe_op op_mod (pe_callTy call_int1 (by rfl) B.b_int (by decide +kernel) (pa_cons (pe_op op_add (pe_op op_add (pe_op op_add (pe_op op_mul (pv 3) pe_int) (pe_op op_mod (pe_callTy call_int1 (by rfl) B.b_int (by decide +kernel) (pa_cons (pv 5) pa_nil)) pe_int)) (pe_op op_mul pe_int (pv 4))) pe_int) pa_nil)) pe_int))))
      (pss_one (ps_ret (pe_lst (pa_cons (pe_ifExp (pt_cmpR op_ge (pe_callB call_abs (by rfl) B.b_abs (by decide +kernel) (pa_cons (pv 2) pa_nil)) (pe_op op_pow pe_int pe_int) (nomark _)) (pe_callB call_abs (by rfl) B.b_abs (by decide +kernel) (pa_cons (pv 2) pa_nil)) pe_int) (pa_cons (pv 3) pa_nil)))))))), ?_⟩
    refine ⟨fun σ H' => ∃ n : Int, σ = [some (.ref a), some (.int i), some (.int n), none, none, none] ∧ H' = H, ?_, ?_⟩
    · refine ⟨_, rfl, _, rfl, a, _, rfl, .inl sq, _, _, rfl, rfl, _, rfl, ?_⟩
      refine ite2 (fun c => ?_) (fun c => ?_)
      · have ci : i < (ns.map V.int).length := of_decide_eq_true c
        obtain ⟨n, hn⟩ : ∃ n, (ns.map V.int)[i.toNat]? = some (.int n) := by
          rw [List.length_map] at ci
          have : i.toNat < ns.length := by omega
          exact ⟨ns[i.toNat], by rw [List.getElem?_map, List.getElem?_eq_getElem this]; rfl⟩
        exact ⟨_, rfl, _, rfl, a, _, i, .int n, rfl, rfl, sq, at_of (by omega) hn, n, rfl, rfl⟩
      · exact ⟨0, rfl, rfl⟩
    rintro σ H' ⟨n, rfl, rfl⟩
    refine ⟨_, rfl, _, _, rfl, rfl, .inl ⟨by decide, by decide⟩, _, _, rfl, rfl, ?_⟩
    refine ⟨_, rfl, _, rfl, a, _, rfl, sq, fun L nL => ?_⟩
    refine ⟨L, _, rfl, .inl (SqL.hp upd_same), fun J wk => ?_⟩
    have sL : Same H' (upd H' L (.lst (cutV (ns.map V.int) none (some 60)))) := Same.new nL
    refine for_it wk (fun j σ H2 => (∃ m y z, σ = [some (.ref a), some (.int i), some (.int n), some (.int m), y, z] ∧ 0 ≤ m ∧ m < 2147483399) ∧ Same (upd H' L (.lst (cutV (ns.map V.int) none (some 60)))) H2)
      ⟨⟨_, none, none, rfl, by omega, by omega⟩, Same.refl _⟩ (fun j σ H2 _ h => sameK h.2) ?_ ?_
    · rintro j x σ H2 H3 hj ⟨⟨m, y, z, rfl, m0, m1⟩, s1⟩ ⟨T, x1, x2, rfl, hT, rfl, e1, e2⟩
      obtain rfl := Option.some.inj e1
      obtain ⟨o, rfl⟩ := cut_int e2
      have hj63 : (j : Int) ≤ 63 := by have := cut_len (xs := ns.map V.int) (lo := none) (hi := some 60); rw [List.length_map] at this; omega
      have s2 := s1.trans (Same.new (o := .tup [.int (j : Nat), .int o]) hT)
      refine ⟨T, _, rfl, SqT.hp upd_same, rfl, _, _, rfl, _, _, rfl, rfl, ?_⟩
      walk_at "vc"
      exact ⟨⟨_, _, _, rfl, Int.emod_nonneg _ (by decide), Int.emod_lt_of_pos _ (by decide)⟩, s2⟩
    · rintro σ H2 ⟨⟨m, y, z, rfl, m0, m1⟩, s1⟩
      have ab : ∀ n : Int, 0 ≤ (if n < 0 then -n else n) := fun n => by split <;> omega
      have fin : ∀ (b0 : Int) (p : Addr), 0 ≤ b0 → H2 p = none → Q (.ref p) (upd H2 p (.lst [.int b0, .int m])) := fun b0 p h0 np =>
        q p _ ((sL.trans s1).free np) ⟨b0, m, upd_same, h0, m0, by omega⟩ ((sL.trans s1).trans (Same.new np))
      walk_at "vc"
      · intro p np
        exact fin _ p (ab n) np
      · intro p np
        exact fin 0 p (Int.le_refl 0) np
end
/-! _law_take -/
abbrev s_l_take : Stmt := topS 43
abbrev sc_l_take_N : List Str := ["_law_bag_here", "_law_many", "_law_digit"]
theorem sc_l_take : FnScope sc_l_take_N ["_law_bag_here", "_law_many"] (defScope s_l_take) := ⟨rfl, rfl, rfl, by decide +kernel, rfl, by decide +kernel, by decide +kernel⟩
def sp_l_take (K : PySem.W.Frag) : Sp := fun vs H Q _ => ∃ (p : Addr) (m : Int), vs = [.ref p, .int m] ∧ BagN H p ∧ 0 < m ∧ m ≤ 1000000000000000000000000000000000000000000000 ∧ ∀ r H', 0 ≤ r → r < m → BagN H' p → But p H H' → Q (.int r) H'
section
variable {P : Program} {w : World} {K : PySem.W.Frag} {mg : Str → Option Value} {bh : Heap}
theorem ok_l_take {f : Addr} {fd : FuncData}  (B : Blt mg) (T : Txt K mg)  (F : Fun K "_law_take" "_law_take" s_l_take f fd) : FnOk P w K mg bh CX0 1 f fd ["_law_bag_here", "_law_many"] (sp_l_take K) := by
  refine F.ok sc_l_take (fun vs H Q E h => ?_) (fun cdv A outer s H vs Q E hr h => ?_)
  · obtain ⟨p, m, rfl, _⟩ := h
    rfl
  · obtain ⟨p, m, rfl, ⟨b0, b1, hp, h0, h1, h1'⟩, hm, hm', q⟩ := h
    refine ⟨_, (pss_cons (ps_if (pt_cmpR op_gt (pe_ix ix_list (pv 0) pe_int (fun _ _ => rfl)) pe_int (nomark _))
      (pss_cons (ps_set (i := 2) sc_l_take.nd rfl (Or.inl rfl) (pe_op op_mod (pe_callTy call_int1 (by rfl) B.b_int (by decide +kernel) (pa_cons (pe_ix ix_list (pv 0) pe_int (fun _ _ => rfl)) pa_nil)) (pv 1)))
      (pss_cons (ps_asg (pe_op op_fdivW (pe_ix ix_list (pv 0) pe_int (fun _ _ => rfl)) (pv 1)) (pg_sub (pv 0) pe_int set_list))
      (pss_one (ps_ret (pv 2)))))
      pss_nil)
      (pss_cons (ps_asg (pe_op op_mod (pe_callTy call_int1 (by rfl) B.b_int (by decide +kernel) (pa_cons (pe_op op_add (pe_op op_mul (pe_ix ix_list (pv 0) pe_int (fun _ _ => rfl)) pe_int) pe_int) pa_nil)) pe_int) (pg_sub (pv 0) pe_int set_list))
      (pss_one (ps_ret (pe_op op_mod (pe_op op_fdivW (pe_op op_mod (pe_callTy call_int1 (by rfl) B.b_int (by decide +kernel) (pa_cons (pe_op op_mul (pe_op op_fdivW (pe_ix ix_list (pv 0) pe_int (fun _ _ => rfl)) pe_int) pe_int) pa_nil)) pe_int) pe_int) (pv 1)))))), ?_⟩
    walk_at "vc"
    · exact q _ _ (Int.emod_nonneg _ (by omega)) (Int.emod_lt_of_pos _ hm) ⟨_, b1, upd_same, Int.ediv_nonneg h0 (by omega), h1, h1'⟩ fun b n => upd_ne n
    · exact q _ _ (Int.emod_nonneg _ (by omega)) (Int.emod_lt_of_pos _ hm) ⟨b0, _, upd_same, h0, Int.emod_nonneg _ (by decide), Int.emod_lt_of_pos _ (by decide)⟩ fun b n => upd_ne n
end
/-! _law_of -/
abbrev s_l_of : Stmt := topS 44
abbrev sc_l_of_N : List Str := ["_law_bag_here", "_law_some"]
theorem sc_l_of : FnScope sc_l_of_N ["_law_bag_here", "_law_some"] (defScope s_l_of) := ⟨rfl, rfl, rfl, by decide +kernel, rfl, by decide +kernel, by decide +kernel⟩
def sp_l_of (K : PySem.W.Frag) : Sp := fun vs H Q _ => ∃ (p a : Addr) (xs : List V), vs = [.ref p, .ref a] ∧ BagN H p ∧ SqL K H a xs ∧ a ≠ p ∧ 0 < xs.length ∧ xs.length ≤ 1000 ∧ ∀ (j : Nat) x H', xs[j]? = some x → BagN H' p → But p H H' → Q x H'
section
variable {P : Program} {w : World} {K : PySem.W.Frag} {mg : Str → Option Value} {bh : Heap}
theorem ok_l_of {f : Addr} {fd : FuncData} {f_l_take : Addr} {fd_l_take : FuncData} (B : Blt mg) (T : Txt K mg) (R_l_take : Rdy P w K mg bh "_law_take" 1 ["_law_bag_here", "_law_many"] (sp_l_take K) f_l_take fd_l_take) (F : Fun K "_law_of" "_law_of" s_l_of f fd) : FnOk P w K mg bh CX0 2 f fd ["_law_bag_here", "_law_some"] (sp_l_of K) := by
  refine F.ok sc_l_of (fun vs H Q E h => ?_) (fun cdv A outer s H vs Q E hr h => ?_)
  · obtain ⟨p, a, xs, rfl, _⟩ := h
    rfl
  · obtain ⟨p, a, xs, rfl, bg, sq, ne, l0, l1, q⟩ := h
    refine ⟨_, (pss_one (ps_ret (pe_ix ix_list (pv 1) (pe_rdy R_l_take hr (by decide) (by rfl) (pa_cons (pv 0) (pa_cons (pe_callB call_len_seq (by rfl) B.b_len (by decide +kernel) (pa_cons (pv 1) pa_nil)) pa_nil))) (fun _ _ => rfl)))), ?_⟩
    refine ⟨_, rfl, _, rfl, _, rfl, a, _, rfl, .inl sq, p, _, rfl, bg, by omega, by omega, fun r H1 r0 r1 bg1 bt1 => ?_⟩
    have hj : r.toNat < xs.length := by omega
    exact ⟨a, _, _, xs[r.toNat], rfl, rfl, kpL bt1.kp ne sq, at_of (by omega) (List.getElem?_eq_getElem hj), q r.toNat _ H1 (List.getElem?_eq_getElem hj) bg1 bt1⟩
end
/-! _law_edge -/
abbrev s_l_edge : Stmt := topS 45
abbrev sc_l_edge_N : List Str := ["_law_bag_here", "_law_near"]
theorem sc_l_edge : FnScope sc_l_edge_N ["_law_bag_here", "_law_near"] (defScope s_l_edge) := ⟨rfl, rfl, rfl, by decide +kernel, rfl, by decide +kernel, by decide +kernel⟩
def sp_l_edge (K : PySem.W.Frag) : Sp := fun vs H Q _ => ∃ (p : Addr) (m : Int), vs = [.ref p, .int m] ∧ BagN H p ∧ 0 < m ∧ m ≤ 1000000 ∧ ∀ r H', -1000000000000000000000000000000 ≤ r → r ≤ 1000000000000000000000000000000 → BagN H' p → Kp p H H' → Q (.int r) H'
section
variable {P : Program} {w : World} {K : PySem.W.Frag} {mg : Str → Option Value} {bh : Heap}
theorem ok_l_edge {f : Addr} {fd : FuncData} {f_l_of : Addr} {fd_l_of : FuncData} {f_l_take : Addr} {fd_l_take : FuncData} (B : Blt mg) (T : Txt K mg) (R_l_of : Rdy P w K mg bh "_law_of" 2 ["_law_bag_here", "_law_some"] (sp_l_of K) f_l_of fd_l_of) (R_l_take : Rdy P w K mg bh "_law_take" 1 ["_law_bag_here", "_law_many"] (sp_l_take K) f_l_take fd_l_take) (F : Fun K "_law_edge" "_law_edge" s_l_edge f fd) : FnOk P w K mg bh CX0 3 f fd ["_law_bag_here", "_law_near"] (sp_l_edge K) := by
  refine F.ok sc_l_edge (fun vs H Q E h => ?_) (fun cdv A outer s H vs Q E hr h => ?_)
  · obtain ⟨p, m, rfl, _⟩ := h
    rfl
  · obtain ⟨p, m, rfl, bg, m0, m1, q⟩ := h
    refine ⟨_, (pss_cons (ps_if (pt_cmpR op_gt (pe_rdy R_l_take hr (by decide) (by rfl) (pa_cons (pv 0) (pa_cons pe_int pa_nil))) pe_int (nomark _))
      (pss_one (ps_ret (pe_rdy R_l_take hr (by decide) (by rfl) (pa_cons (pv 0) (pa_cons (pv 1) pa_nil)))))
      pss_nil)
      (pss_one (ps_ret (pe_rdy R_l_of hr (by decide) (by rfl) (pa_cons (pv 0) (pa_cons (pe_lst (pa_cons (pe_un un_neg (pe_op op_pow pe_int pe_int)) (pa_cons (pe_op op_pow pe_int pe_int) (pa_cons (pe_un un_neg pe_int) (pa_cons (pe_op op_add (pe_op op_pow pe_int pe_int) (pe_rdy R_l_take hr (by decide) (by rfl) (pa_cons (pv 0) (pa_cons pe_int pa_nil)))) (pa_cons (pe_rdy R_l_take hr (by decide) (by rfl) (pa_cons (pv 0) (pa_cons (pe_op op_pow pe_int pe_int) pa_nil))) pa_nil)))))) pa_nil)))))), ?_⟩
    refine ⟨_, rfl, p, 8, rfl, bg, by omega, by omega, fun k H1 k0 k1 bg1 bt1 => ?_⟩
    refine ⟨_, _, rfl, rfl, _, rfl, ?_⟩
    refine ite2 (fun c1 => ?_) (fun c1 => ?_)
    · exact ⟨_, rfl, _, rfl, p, m, rfl, bg1, m0, by omega, fun r H2 r0 r1 bg2 bt2 => q r H2 (by omega) (by omega) bg2 (bt1.trans bt2).kp⟩
    · refine ⟨_, rfl, _, _, rfl, rfl, ⟨by decide, by decide, by decide⟩, _, rfl, _, _, rfl, rfl, ⟨by decide, by decide, by decide⟩, _, rfl, _, _, rfl, rfl, ⟨by decide, by decide, by decide⟩, _, rfl, p, 5, rfl, bg1, by omega, by omega, fun x H2 x0 x1 bg2 bt2 => ?_⟩
      refine ⟨_, _, rfl, rfl, _, rfl, _, _, rfl, rfl, ⟨by decide, by decide, by decide⟩, p, 1000000000000000000000000000000, rfl, bg2, by omega, by omega, fun y H3 y0 y1 bg3 bt3 => ?_⟩
      refine ⟨(by show 5 ≤ sizeLine; decide), fun L nL => ?_⟩
      have s4 := Same.new (o := .lst [.int (-1000000000000000000000000000000), .int 1000000000000000000000000000000, .int (-1), .int (100000000000000000000000000000 + x), .int y]) nL
      refine ⟨p, L, _, rfl, bg3.same s4, SqL.hp upd_same, bagN_none bg3 nL, (by show 0 < 5; decide), (by show 5 ≤ 1000; decide), fun j v H5 hj bg5 bt5 => ?_⟩
      have kp : Kp p H H5 := (bt1.trans (bt2.trans bt3)).kp.trans ((Kp.same s4).trans bt5.kp)
      match j, hj with
      | 0, hj => obtain rfl := Option.some.inj hj; exact q (-1000000000000000000000000000000) H5 (by omega) (by omega) bg5 kp
      | 1, hj => obtain rfl := Option.some.inj hj; exact q 1000000000000000000000000000000 H5 (by omega) (by omega) bg5 kp
      | 2, hj => obtain rfl := Option.some.inj hj; exact q (-1) H5 (by omega) (by omega) bg5 kp
      | 3, hj => obtain rfl := Option.some.inj hj; exact q (100000000000000000000000000000 + x) H5 (by omega) (by omega) bg5 kp
      | 4, hj => obtain rfl := Option.some.inj hj; exact q y H5 (by omega) (by omega) bg5 kp
end
/-! _law_span -/
abbrev s_l_span : Stmt := topS 46
abbrev sc_l_span_N : List Str := ["_law_bag_here", "_law_near", "_law_one", "_law_other", "_law_pair", "_law_turn"]
theorem sc_l_span : FnScope sc_l_span_N ["_law_bag_here", "_law_near"] (defScope s_l_span) := ⟨rfl, rfl, rfl, by decide +kernel, rfl, by decide +kernel, by decide +kernel⟩
def sp_l_span (K : PySem.W.Frag) : Sp := fun vs H Q _ => ∃ (p : Addr) (m : Int), vs = [.ref p, .int m] ∧ BagN H p ∧ 0 < m ∧ m ≤ 1000000 ∧ ∀ t b e H', H t = none → H' t = some (.tup [.int b, .int e]) → strP (b, e) = true → BagN H' p → Kp p H H' → Q (.ref t) H'
section
variable {P : Program} {w : World} {K : PySem.W.Frag} {mg : Str → Option Value} {bh : Heap}
theorem ok_l_span {f : Addr} {fd : FuncData} {f_l_take : Addr} {fd_l_take : FuncData} {f_l_edge : Addr} {fd_l_edge : FuncData} (B : Blt mg) (T : Txt K mg) (R_l_take : Rdy P w K mg bh "_law_take" 1 ["_law_bag_here", "_law_many"] (sp_l_take K) f_l_take fd_l_take) (R_l_edge : Rdy P w K mg bh "_law_edge" 3 ["_law_bag_here", "_law_near"] (sp_l_edge K) f_l_edge fd_l_edge) (F : Fun K "_law_span" "_law_span" s_l_span f fd) : FnOk P w K mg bh CX0 4 f fd ["_law_bag_here", "_law_near"] (sp_l_span K) := by
  refine F.ok sc_l_span (fun vs H Q E h => ?_) (fun cdv A outer s H vs Q E hr h => ?_)
  · obtain ⟨p, m, rfl, _⟩ := h
    rfl
  · obtain ⟨p, m, rfl, bg, m0, m1, q⟩ := h
    refine ⟨_, (pss_cons (ps_par (i := 2) (j := 3) (by rfl) sc_l_span.nd rfl rfl (by decide) rfl rfl (pa_cons (pe_rdy R_l_edge hr (by decide) (by rfl) (pa_cons (pv 0) (pa_cons (pv 1) pa_nil))) (pa_cons (pe_rdy R_l_edge hr (by decide) (by rfl) (pa_cons (pv 0) (pa_cons (pv 1) pa_nil))) pa_nil)) (by rfl))
      (pss_cons (ps_set (i := 4) sc_l_span.nd rfl (Or.inl rfl) (pe_tup (pa_cons (pe_callB (call_min2 rfl) (by rfl) B.b_min (by decide +kernel) (pa_cons (pv 2) (pa_cons (pv 3) pa_nil))) (pa_cons (pe_callB (call_max2 rfl) (by rfl) B.b_max (by decide +kernel) (pa_cons (pv 2) (pa_cons (pv 3) pa_nil))) pa_nil))))
      (pss_cons (ps_set (i := 5) sc_l_span.nd rfl (Or.inl rfl) (pe_rdy R_l_take hr (by decide) (by rfl) (pa_cons (pv 0) (pa_cons pe_int pa_nil))))
      (pss_cons (ps_if (pt_cmpR op_eq (pv 5) pe_int (nomark _))
      (pss_one (ps_ret (pe_tup (pa_cons (pe_un un_neg (pe_op op_pow pe_int pe_int)) (pa_cons (pe_ix ix_tup (pv 4) pe_int (fun _ _ => rfl)) pa_nil)))))
      pss_nil)
      (pss_cons (ps_if (pt_cmpR op_eq (pv 5) pe_int (nomark _))
      (pss_one (ps_ret (pe_tup (pa_cons (pe_ix ix_tup (pv 4) pe_int (fun _ _ => rfl)) (pa_cons (pe_op op_pow pe_int pe_int) pa_nil)))))
      pss_nil)
      (pss_one (ps_ret (pe_ifExp (pt_cmpR op_lt (pv 5) pe_int (nomark _)) (pe_tup (pa_cons (pe_ix ix_tup (pv 4) pe_int (fun _ _ => rfl)) (pa_cons (pe_ix ix_tup (pv 4) pe_int (fun _ _ => rfl)) pa_nil))) (pv 4))))))))), ?_⟩
    refine ⟨_, rfl, _, rfl, p, m, rfl, bg, m0, m1, fun x H1 x0 x1 bg1 k1 => ⟨_, rfl, _, rfl, p, m, rfl, bg1, m0, m1, fun y H2 y0 y1 bg2 k2 => ⟨_, _, rfl, ?_⟩⟩⟩
    refine ⟨_, rfl, _, rfl, _, _, rfl, _, rfl, _, rfl, _, _, rfl, (by show 2 ≤ sizeLine; decide), fun T nT => ?_⟩
    have hb : -1000000000000000000000000000000 ≤ (if y < x then y else x) ∧ (if y < x then y else x) ≤ (if y > x then y else x) ∧ (if y > x then y else x) ≤ 1000000000000000000000000000000 := by
      (repeat' split) <;> omega
    have base : strP ((if y < x then y else x), (if y > x then y else x)) = true := strP_of hb.1 hb.2.1 hb.2.2
    have sT := Same.new (o := .tup [.int (if y < x then y else x), .int (if y > x then y else x)]) nT
    have k3 : Kp p H (upd H2 T (.tup [.int (if y < x then y else x), .int (if y > x then y else x)])) := (k1.trans k2).trans (Kp.same sT)
    have nH : ∀ b, b ≠ p → H2 b = none → H b = none := fun b hb h => by
      cases e : H b with
      | none => rfl
      | some o => rw [(k1.trans k2) b o hb e] at h; cases h
    refine ⟨_, rfl, p, 12, rfl, bg2.same sT, by omega, by omega, fun k H4 k0 k1' bg4 bt4 => ?_⟩
    have hT4 : H4 T = some (.tup [.int (if y < x then y else x), .int (if y > x then y else x)]) := (bt4 T (bagN_none bg2 nT)).trans upd_same
    have k4 : Kp p H H4 := k3.trans bt4.kp
    have nT' : H T = none := nH T (bagN_none bg2 nT) nT
    have fin : ∀ (t : Addr) (b e : Int), H4 t = none → strP (b, e) = true → Q (.ref t) (upd H4 t (.tup [.int b, .int e])) := fun t b e nt hs => by
      have st := Same.new (o := .tup [.int b, .int e]) nt
      refine q t b e _ ?_ upd_same hs (bg4.same st) (k4.trans (Kp.same st))
      cases eh : H t with
      | none => rfl
      | some o => rw [k4 t o (bagN_none bg4 nt) eh] at nt; cases nt
    refine ⟨_, rfl, rfl, _, rfl, ?_⟩
    refine ite2 (fun c1 => ?_) (fun c1 => ?_)
    · exact ⟨_, _, rfl, rfl, ⟨by decide, by decide, by decide⟩, _, rfl, _, rfl, T, _, 1, _, rfl, rfl, SqT.hp hT4, rfl, (by show 2 ≤ sizeLine; decide), fun t nt => fin t _ _ nt (strP_first base)⟩
    · refine ⟨_, rfl, rfl, _, rfl, ?_⟩
      refine ite2 (fun c2 => ?_) (fun c2 => ?_)
      · exact ⟨_, rfl, T, _, 0, _, rfl, rfl, SqT.hp hT4, rfl, _, _, rfl, rfl, ⟨by decide, by decide, by decide⟩, (by show 2 ≤ sizeLine; decide), fun t nt => fin t _ _ nt (strP_last base)⟩
      · refine ⟨_, rfl, _, _, rfl, rfl, _, rfl, ?_⟩
        refine ite2 (fun c3 => ?_) (fun c3 => ?_)
        · exact ⟨_, rfl, T, _, 0, _, rfl, rfl, SqT.hp hT4, rfl, _, rfl, T, _, 0, _, rfl, rfl, SqT.hp hT4, rfl, (by show 2 ≤ sizeLine; decide), fun t nt => fin t (if y < x then y else x) (if y < x then y else x) nt (strP_of hb.1 (Int.le_refl _) (by omega))⟩
        · exact ⟨_, rfl, q T (if y < x then y else x) (if y > x then y else x) H4 nT' hT4 base bg4 k4⟩
end
/-! _law_spans -/
abbrev s_l_spans : Stmt := topS 47
abbrev sc_l_spans_N : List Str := ["_law_bag_here", "_law_most", "_law_near", "_law_found", "_law_turn"]
theorem sc_l_spans : FnScope sc_l_spans_N ["_law_bag_here", "_law_most", "_law_near"] (defScope s_l_spans) := ⟨rfl, rfl, rfl, by decide +kernel, rfl, by decide +kernel, by decide +kernel⟩
def sp_l_spans (K : PySem.W.Frag) : Sp := fun vs H Q _ => ∃ (p : Addr) (n m : Int), vs = [.ref p, .int n, .int m] ∧ BagN H p ∧ 0 ≤ n ∧ n ≤ 100 ∧ 0 < m ∧ m ≤ 1000000 ∧ ∀ a ts ps H', H a = none → H' a = some (.lst (ts.map V.ref)) → Pd H' ts ps → (∀ x ∈ ps, strP x = true) → (ps.length : Int) ≤ n → BagN H' p → Kp p H H' → Q (.ref a) H'
section
variable {P : Program} {w : World} {K : PySem.W.Frag} {mg : Str → Option Value} {bh : Heap}
theorem ok_l_spans {f : Addr} {fd : FuncData} {f_l_take : Addr} {fd_l_take : FuncData} {f_l_of : Addr} {fd_l_of : FuncData} {f_l_span : Addr} {fd_l_span : FuncData} (B : Blt mg) (T : Txt K mg) (R_l_take : Rdy P w K mg bh "_law_take" 1 ["_law_bag_here", "_law_many"] (sp_l_take K) f_l_take fd_l_take) (R_l_of : Rdy P w K mg bh "_law_of" 2 ["_law_bag_here", "_law_some"] (sp_l_of K) f_l_of fd_l_of) (R_l_span : Rdy P w K mg bh "_law_span" 4 ["_law_bag_here", "_law_near"] (sp_l_span K) f_l_span fd_l_span) (F : Fun K "_law_spans" "_law_spans" s_l_spans f fd) : FnOk P w K mg bh CX0 5 f fd ["_law_bag_here", "_law_most", "_law_near"] (sp_l_spans K) := by
  refine F.ok sc_l_spans (fun vs H Q E h => ?_) (fun cdv A outer s H vs Q E hr h => ?_)
  · obtain ⟨p, n, m, rfl, _⟩ := h
    rfl
  · obtain ⟨p, n, m, rfl, bg, n0, n1, m0, m1, q⟩ := h
    refine ⟨_, (pss_cons (ps_set (i := 3) sc_l_spans.nd rfl (Or.inl rfl) (pe_lst pa_nil))
      (pss_cons (ps_for PassesOwn.never rfl (pi_range1 (by rfl) B.b_range (pa_cons (pe_rdy R_l_take hr (by decide) (by rfl) (pa_cons (pv 0) (pa_cons (pe_op op_add (pv 1) pe_int) pa_nil))) pa_nil)) (pg_name (i := 4) sc_l_spans.nd rfl (Or.inl rfl))
      (pss_one (ps_if (PW.pt (pw_and (pt_cmpR (op_neD hr.units) (pv 3) (pe_lst pa_nil) (nomark _)) (pw_and1 (pt_cmpR op_eq (pe_rdy R_l_take hr (by decide) (by rfl) (pa_cons (pv 0) (pa_cons pe_int pa_nil))) pe_int (nomark _)))))
      (pss_one (ps_expr (pe_bm PySem.F.plainAttrs_list PySem.F.slot_list_append PySem.F.type_list_append mt_append (pv 3) (pa_cons (pe_rdy R_l_of hr (by decide) (by rfl) (pa_cons (pv 0) (pa_cons (pv 3) pa_nil))) pa_nil))))
      (pss_one (ps_expr (pe_bm PySem.F.plainAttrs_list PySem.F.slot_list_append PySem.F.type_list_append mt_append (pv 3) (pa_cons (pe_rdy R_l_span hr (by decide) (by rfl) (pa_cons (pv 0) (pa_cons (pv 2) pa_nil))) pa_nil)))))))
      (pss_one (ps_ret (pv 3))))), ?_⟩
    refine ⟨Nat.zero_le _, fun L nL => ?_⟩
    have sL := Same.new (o := .lst []) nL
    have neL : L ≠ p := bagN_none bg nL
    refine ⟨_, rfl, _, rfl, _, _, rfl, rfl, p, n + 1, rfl, bg.same sL, by omega, by omega, fun k H1 k0 k1 bg1 bt1 => ?_⟩
    have hL1 : H1 L = some (.lst []) := (bt1 L neL).trans upd_same
    have kp1 : Kp p H H1 := (Kp.same sL).trans bt1.kp
    refine ⟨k, rfl, by omega, by omega, ?_⟩
    refine for_range (lo := 0) (n := k.toNat) (fun i σ H' => ∃ y ts ps, σ = [some (.ref p), some (.int n), some (.int m), some (.ref L), y] ∧ H' L = some (.lst (ts.map V.ref)) ∧ Pd H' ts ps ∧ (∀ x ∈ ps, strP x = true) ∧ ps.length ≤ i ∧ BagN H' p ∧ Ks p L H1 H')
      ⟨none, [], [], rfl, hL1, trivial, (fun x h => nomatch h), Nat.zero_le _, bg1, Ks.refl⟩ ?_ ?_
    · rintro i σ H2 hi ⟨y, ts, ps, rfl, hL2, pd, hs, hl, bg2, k2⟩
      have li := pd.len
      have lim : ps.length ≤ 100 := by omega
      have app : ∀ (t : Addr) (x : Pr) (H' : Hp), H' t = some (.tup [.int x.1, .int x.2]) → strP x = true → H' L = some (.lst (ts.map V.ref)) → Pd H' ts ps → BagN H' p → Ks p L H1 H' →
          ∃ y' ts' ps', ([some (.ref p), some (.int n), some (.int m), some (.ref L), some (.int (0 + (i : Int)))] : L2.St) = [some (.ref p), some (.int n), some (.int m), some (.ref L), y'] ∧ (upd H' L (.lst (ts.map V.ref ++ [.ref t]))) L = some (.lst (ts'.map V.ref)) ∧ Pd (upd H' L (.lst (ts.map V.ref ++ [.ref t]))) ts' ps' ∧ (∀ x ∈ ps', strP x = true) ∧ ps'.length ≤ i + 1 ∧ BagN (upd H' L (.lst (ts.map V.ref ++ [.ref t]))) p ∧ Ks p L H1 (upd H' L (.lst (ts.map V.ref ++ [.ref t]))) := by
        intro t x H' ht hx hL' pd' bg' k'
        have ntL : L ≠ t := ne_of hL' ht (fun z => nomatch z)
        refine ⟨_, ts ++ [t], ps ++ [x], rfl, by rw [upd_same, List.map_append]; rfl, ?_, ?_, by rw [List.length_append, List.length_singleton]; omega, bg'.kp Kp.at_ (Ne.symm neL), k'.trans (Ks.kq Kp.at_)⟩
        · exact Pd.app (Pd.kp Kp.at_ (fun xs z => by rw [hL'] at z; cases z) pd') ⟨by rw [upd_ne (Ne.symm ntL)]; exact ht, trivial⟩
        · intro z hz
          rcases List.mem_append.mp hz with hz | hz
          · exact hs z hz
          · rw [List.mem_singleton.mp hz]; exact hx
      refine ⟨_, rfl, Nat.zero_le _, fun M nM => ?_⟩
      have sM := Same.new (o := .lst []) nM
      have bg3 := bg2.same sM
      have hL3 := sM _ _ hL2
      have pd3 := pd.same sM
      have k3 : Ks p L H1 (upd H2 M (.lst [])) := k2.trans (Ks.same sM)
      refine ⟨.list (ps.map prD), .list [], .lst (SqL.hp hL3) pd3.dp, .lst (SqL.hp upd_same) .nil, shapedPs _, shapedNil, _, rfl, ?_⟩
      rw [eqvNil]
      refine ite2 (fun c1 => ?_) (fun c1 => ?_)
      · have hne : ps ≠ [] := by simpa using c1
        refine ⟨_, rfl, p, 6, rfl, bg3, by omega, by omega, fun r H4 r0 r1 bg4 bt4 => ⟨rfl, _, rfl, ?_⟩⟩
        have hL4 := (bt4 L neL).trans hL3
        have pd4 := pd3.kp bt4.kp bg3.ne_tup
        have k4 : Ks p L H1 H4 := k3.trans (Ks.kp bt4.kp)
        refine ite2 (fun c2 => ?_) (fun c2 => ?_)
        · refine ⟨_, rfl, .inl ⟨rfl, _, SqL.hp hL4⟩, _, rfl, _, rfl, p, L, _, rfl, bg4, SqL.hp hL4, neL, by rw [List.length_map, li]; exact List.length_pos_iff.mpr hne, by rw [List.length_map]; omega, fun j v H5 hj bg5 bt5 => ?_⟩
          obtain ⟨t, ht, rfl⟩ := map_get hj
          obtain ⟨x, hx, et⟩ := Pd.get pd4 ht
          have hL5 := (bt5 L neL).trans hL4
          have et5 := (bt5 t (bagN_tup bg4 et)).trans et
          refine ⟨L, _, _, rfl, rfl, hL5, by rw [List.length_map]; exact small1000 (by omega), ?_⟩
          exact app t x H5 et5 (hs x (List.mem_of_getElem? hx)) hL5 (pd4.kp bt5.kp bg4.ne_tup) bg5 (k4.trans (Ks.kp bt5.kp))
        · refine ⟨_, rfl, .inl ⟨rfl, _, SqL.hp hL4⟩, _, rfl, _, rfl, p, m, rfl, bg4, m0, m1, fun t b e H5 nt ht hs5 bg5 k5 => ?_⟩
          have hL5 := k5 L _ neL hL4
          refine ⟨L, _, _, rfl, rfl, hL5, by rw [List.length_map]; exact small1000 (by omega), ?_⟩
          exact app t (b, e) H5 ht hs5 hL5 (pd4.kp k5 bg4.ne_tup) bg5 (k4.trans (Ks.kp k5))
      · refine ⟨_, rfl, .inl ⟨rfl, _, SqL.hp hL3⟩, _, rfl, _, rfl, p, m, rfl, bg3, m0, m1, fun t b e H5 nt ht hs5 bg5 k5 => ?_⟩
        have hL5 := k5 L _ neL hL3
        refine ⟨L, _, _, rfl, rfl, hL5, by rw [List.length_map]; exact small1000 (by omega), ?_⟩
        exact app t (b, e) H5 ht hs5 hL5 (pd3.kp k5 bg3.ne_tup) bg5 (k3.trans (Ks.kp k5))
    · rintro σ H2 ⟨y, ts, ps, rfl, hL2, pd, hs, hl, bg2, k2⟩
      refine ⟨_, rfl, q L ts ps H2 nL hL2 pd hs (by omega) bg2 ?_⟩
      intro b o hb e
      exact k2 b o hb (ne_of_none e nL) (kp1 b o hb e)
end
/-! _law_window -/
abbrev s_l_window : Stmt := topS 48
abbrev sc_l_window_N : List Str := ["_law_bag_here", "_law_near", "_law_one", "_law_left"]
theorem sc_l_window : FnScope sc_l_window_N ["_law_bag_here", "_law_near"] (defScope s_l_window) := ⟨rfl, rfl, rfl, by decide +kernel, rfl, by decide +kernel, by decide +kernel⟩
def sp_l_window (K : PySem.W.Frag) : Sp := fun vs H Q _ => ∃ (p : Addr) (m : Int), vs = [.ref p, .int m] ∧ BagN H p ∧ 0 < m ∧ m ≤ 1000000 ∧ ∀ (t : Addr) (w : Pr) H', H' t = some (.tup [.int w.1, .int w.2]) → winP w = true → BagN H' p → Kp p H H' → Q (.ref t) H'
section
variable {P : Program} {w : World} {K : PySem.W.Frag} {mg : Str → Option Value} {bh : Heap}
theorem ok_l_window {f : Addr} {fd : FuncData} {f_l_take : Addr} {fd_l_take : FuncData} {f_l_of : Addr} {fd_l_of : FuncData} (B : Blt mg) (T : Txt K mg) (R_l_take : Rdy P w K mg bh "_law_take" 1 ["_law_bag_here", "_law_many"] (sp_l_take K) f_l_take fd_l_take) (R_l_of : Rdy P w K mg bh "_law_of" 2 ["_law_bag_here", "_law_some"] (sp_l_of K) f_l_of fd_l_of) (F : Fun K "_law_window" "_law_window" s_l_window f fd) : FnOk P w K mg bh CX0 3 f fd ["_law_bag_here", "_law_near"] (sp_l_window K) := by
  refine F.ok sc_l_window (fun vs H Q E h => ?_) (fun cdv A outer s H vs Q E hr h => ?_)
  · obtain ⟨p, m, rfl, _⟩ := h
    rfl
  · obtain ⟨p, m, rfl, bg, m0, m1, q⟩ := h
    refine ⟨_, (pss_cons (ps_set (i := 2) sc_l_window.nd rfl (Or.inl rfl) (pe_rdy R_l_take hr (by decide) (by rfl) (pa_cons (pv 0) (pa_cons (pv 1) pa_nil))))
      (pss_cons (ps_set (i := 3) sc_l_window.nd rfl (Or.inl rfl) (pe_rdy R_l_of hr (by decide) (by rfl) (pa_cons (pv 0) (pa_cons (pe_lst (pa_cons (pv 2) (pa_cons (pv 2) (pa_cons (pv 2) (pa_cons (pv 2) (pa_cons (pe_un un_neg (pe_op op_pow pe_int pe_int)) pa_nil)))))) pa_nil))))
      (pss_one (ps_ret (pe_tup (pa_cons (pv 3) (pa_cons (pe_rdy R_l_of hr (by decide) (by rfl) (pa_cons (pv 0) (pa_cons (pe_lst (pa_cons (pe_op op_add (pe_op op_add (pv 2) pe_int) (pe_rdy R_l_take hr (by decide) (by rfl) (pa_cons (pv 0) (pa_cons (pv 1) pa_nil)))) (pa_cons (pe_op op_add (pv 2) pe_int) (pa_cons (pe_op op_add (pv 2) pe_int) (pa_cons (pe_op op_pow pe_int pe_int) pa_nil))))) pa_nil))) pa_nil))))))), ?_⟩
    refine ⟨_, rfl, _, rfl, p, m, rfl, bg, m0, by omega, fun x H1 x0 x1 bg1 bt1 => ?_⟩
    refine ⟨_, rfl, _, rfl, _, rfl, _, rfl, _, rfl, _, _, rfl, rfl, ⟨by decide, by decide, by decide⟩, _, rfl, (by show 5 ≤ sizeLine; decide), fun L nL => ?_⟩
    have sL := Same.new (o := .lst [.int x, .int x, .int x, .int x, .int (-10000000000000000000000000000000)]) nL
    refine ⟨p, L, _, rfl, bg1.same sL, SqL.hp upd_same, bagN_none bg1 nL, (by show 0 < 5; decide), (by show 5 ≤ 1000; decide), fun j v H2 hj bg2 bt2 => ?_⟩
    obtain ⟨l, rfl, hl⟩ : ∃ l : Int, v = .int l ∧ (l = x ∨ l = -10000000000000000000000000000000) := by
      match j, hj with
      | 0, hj => exact ⟨x, (Option.some.inj hj).symm, .inl rfl⟩
      | 1, hj => exact ⟨x, (Option.some.inj hj).symm, .inl rfl⟩
      | 2, hj => exact ⟨x, (Option.some.inj hj).symm, .inl rfl⟩
      | 3, hj => exact ⟨x, (Option.some.inj hj).symm, .inl rfl⟩
      | 4, hj => exact ⟨-10000000000000000000000000000000, (Option.some.inj hj).symm, .inr rfl⟩
    have k2 : Kp p H H2 := bt1.kp.trans ((Kp.same sL).trans bt2.kp)
    refine ⟨_, rfl, _, rfl, _, rfl, _, _, rfl, rfl, _, rfl, _, rfl, p, m, rfl, bg2, m0, by omega, fun y H3 y0 y1 bg3 bt3 => ⟨_, _, rfl, rfl, ?_⟩⟩
    refine ⟨_, rfl, _, _, rfl, rfl, _, rfl, _, _, rfl, rfl, _, _, rfl, rfl, ⟨by decide, by decide, by decide⟩, (by show 4 ≤ sizeLine; decide), fun M nM => ?_⟩
    have sM := Same.new (o := .lst [.int (x + 1 + y), .int (x + 1), .int (x + 2), .int 10000000000000000000000000000000]) nM
    refine ⟨p, M, _, rfl, bg3.same sM, SqL.hp upd_same, bagN_none bg3 nM, (by show 0 < 4; decide), (by show 4 ≤ 1000; decide), fun j v H4 hj bg4 bt4 => ?_⟩
    obtain ⟨r, rfl, hr2⟩ : ∃ r : Int, v = .int r ∧ ((x < r ∧ r ≤ 1000000000000000000000000000000) ∨ r = 10000000000000000000000000000000) := by
      match j, hj with
      | 0, hj => exact ⟨x + 1 + y, (Option.some.inj hj).symm, .inl (by omega)⟩
      | 1, hj => exact ⟨x + 1, (Option.some.inj hj).symm, .inl (by omega)⟩
      | 2, hj => exact ⟨x + 2, (Option.some.inj hj).symm, .inl (by omega)⟩
      | 3, hj => exact ⟨10000000000000000000000000000000, (Option.some.inj hj).symm, .inr rfl⟩
    have k4 : Kp p H H4 := k2.trans (bt3.kp.trans ((Kp.same sM).trans bt4.kp))
    refine ⟨(by show 2 ≤ sizeLine; decide), fun t nt => ?_⟩
    have st := Same.new (o := .tup [.int l, .int r]) nt
    exact q t (l, r) _ upd_same (winP_of (by omega) (by omega) (by omega)) (bg4.same st) (k4.trans (Kp.same st))
end
/-! _law_in -/
abbrev s_l_in : Stmt := topS 49
abbrev sc_l_in_N : List Str := ["_law_pair", "_law_point", "_law_word"]
theorem sc_l_in : FnScope sc_l_in_N ["_law_pair", "_law_point", "_law_word"] (defScope s_l_in) := ⟨rfl, rfl, rfl, by decide +kernel, rfl, by decide +kernel, by decide +kernel⟩
def sp_l_in (K : PySem.W.Frag) : Sp := fun vs H Q _ => ∃ (t : Addr) (p : Pr) (i : Int) (z : Bool), vs = [.ref t, .int i, endsV z] ∧ SqT K H t [.int p.1, .int p.2] ∧ p.1 ≤ p.2 ∧ Q (.bl (hldB z p i)) H
section
variable {P : Program} {w : World} {K : PySem.W.Frag} {mg : Str → Option Value} {bh : Heap}
theorem ok_l_in {f : Addr} {fd : FuncData}  (B : Blt mg) (T : Txt K mg)  (F : Fun K "_law_in" "_law_in" s_l_in f fd) : FnOk P w K mg bh CX0 1 f fd ["_law_pair", "_law_point", "_law_word"] (sp_l_in K) := by
  refine F.ok sc_l_in (fun vs H Q E h => ?_) (fun cdv A outer s H vs Q E hr h => ?_)
  · obtain ⟨t, p, i, z, rfl, _⟩ := h
    rfl
  · obtain ⟨t, p, i, z, rfl, sq, le, q⟩ := h
    refine ⟨_, (pss_one (ps_ret (pe_or (pe_chain op_le op_lt (pe_ix ix_tup (pv 0) pe_int (fun _ _ => rfl)) (pv 1) (pe_ix ix_tup (pv 0) pe_int (fun _ _ => rfl))) (pe_one (pe_and (pe_cmpR op_eq (pv 2) pe_str (nomark _)) (pe_one (pe_chain op_le op_eq (pe_ix ix_tup (pv 0) pe_int (fun _ _ => rfl)) (pv 1) (pe_ix ix_tup (pv 0) pe_int (fun _ _ => rfl))))))))), ?_⟩
    have e1 : p.1 ≤ i → i < p.2 → Q (.bl true) H := fun h1 h2 => by rw [hld_in h1 h2] at q; exact q
    have e2 : p.1 ≤ i → ¬ i < p.2 → Q (.bl (z && decide (V.int i = V.int p.2))) H := fun h1 h2 => by
      rw [hld_end h1 h2] at q
      rw [show decide (V.int i = V.int p.2) = decide (V.int p.2 = V.int i) from decide_eq_decide.mpr ⟨Eq.symm, Eq.symm⟩]
      exact q
    have e3 : ¬ p.1 ≤ i → Q (.bl false) H := fun h => by rw [(hld_out (z := z) h le).2] at q; exact q
    refine ⟨_, rfl, t, _, 0, _, rfl, rfl, sq, rfl, _, rfl, _, _, rfl, rfl, _, rfl, ?_⟩
    have tail : ∀ b, (z && decide (V.int i = V.int p.2)) = b → (p.1 ≤ i → Q (.bl b) H) → p.1 ≤ i → scal (endsV z) (.str "shut") = true ∧ True := fun _ _ _ _ => ⟨endsV_scal z, trivial⟩
    clear tail
    refine ite2 (fun c1 => ?_) (fun c1 => ?_)
    · have h1 : p.1 ≤ i := of_decide_eq_true c1
      refine ⟨_, rfl, t, _, 1, _, rfl, rfl, sq, rfl, _, _, rfl, rfl, _, rfl, ?_⟩
      refine ite2 (fun c2 => ?_) (fun c2 => ?_)
      · exact e1 h1 (of_decide_eq_true c2)
      · have h2 : ¬ i < p.2 := fun h => c2 (decide_eq_true h)
        refine ⟨_, rfl, endsV_scal z, _, rfl, ?_⟩
        rw [endsV_shut]
        have e := e2 h1 h2
        refine ite2 (fun c3 => ?_) (fun c3 => ?_)
        · rw [c3, Bool.true_and] at e
          refine ⟨_, rfl, t, _, 0, _, rfl, rfl, sq, rfl, _, rfl, _, _, rfl, rfl, _, rfl, ?_⟩
          rw [decide_eq_true h1]
          exact iteT ⟨_, rfl, t, _, 1, _, rfl, rfl, sq, rfl, rfl, e⟩
        · rw [Bool.eq_false_iff.mpr c3, Bool.false_and] at e
          exact e
    · have h1 : ¬ p.1 ≤ i := fun h => c1 (decide_eq_true h)
      refine ⟨_, rfl, iteF ?_⟩
      refine ⟨_, rfl, endsV_scal z, _, rfl, ?_⟩
      rw [endsV_shut]
      refine ite2 (fun c3 => ?_) (fun c3 => ?_)
      · refine ⟨_, rfl, t, _, 0, _, rfl, rfl, sq, rfl, _, rfl, _, _, rfl, rfl, _, rfl, ?_⟩
        rw [decide_eq_false h1]
        exact iteF (e3 h1)
      · exact e3 h1
end
/-! _law_times -/
abbrev s_l_times : Stmt := topS 50
abbrev sc_l_times_N : List Str := ["_law_wish_word", "_law_spans_here", "_law_point", "_law_word", "_law_many", "_law_due", "_law_pair"]
theorem sc_l_times : FnScope sc_l_times_N ["_law_wish_word", "_law_spans_here", "_law_point", "_law_word"] (defScope s_l_times) := ⟨rfl, rfl, rfl, by decide +kernel, rfl, by decide +kernel, by decide +kernel⟩
def sp_l_times (K : PySem.W.Frag) : Sp := fun vs H Q _ => ∃ (t : Nat) (a : Addr) (ts : List Addr) (ps : List Pr) (m : Int) (z : Bool), vs = [wndV t, .ref a, .int m, endsV z] ∧ t < 6 ∧ SqL K H a (ts.map V.ref) ∧ Pd H ts ps ∧ (∀ p ∈ ps, strP p = true) ∧ ps.length ≤ 200 ∧ ∀ H', Same H H' → Q (.int (wtdT t z ps m)) H'
section
variable {P : Program} {w : World} {K : PySem.W.Frag} {mg : Str → Option Value} {bh : Heap}
theorem ok_l_times {f : Addr} {fd : FuncData} {f_l_in : Addr} {fd_l_in : FuncData} (B : Blt mg) (T : Txt K mg) (R_l_in : Rdy P w K mg bh "_law_in" 1 ["_law_pair", "_law_point", "_law_word"] (sp_l_in K) f_l_in fd_l_in) (F : Fun K "_law_times" "_law_times" s_l_times f fd) : FnOk P w K mg bh CX0 2 f fd ["_law_wish_word", "_law_spans_here", "_law_point", "_law_word"] (sp_l_times K) := by
  refine F.ok sc_l_times (fun vs H Q E h => ?_) (fun cdv A outer s H vs Q E hr h => ?_)
  · obtain ⟨t, a, ts, ps, m, z, rfl, _⟩ := h
    rfl
  · obtain ⟨t, a, ts, ps, m, z, rfl, t6, sq, pd, hst, hlen, q⟩ := h
    refine ⟨_, (pss_cons (ps_set (i := 4) sc_l_times.nd rfl (Or.inl rfl) (pe_callB call_len_seq (by rfl) B.b_len (by decide +kernel) (pa_cons (pe_lc (own := [("_law_pair", 6)]) (by rfl) sc_l_times.nd (pi_sq (pv 1)) (blkOk_by (own := [("_law_pair", 6)]) (N := sc_l_times_N) (sc := defScope s_l_times) (by decide +kernel)) (fun _ _ _ _ _ => (pg_name (i := 6) sc_l_times.nd rfl (Or.inl rfl))) (fun _ _ _ _ _ => (pts_one (pt_val (pe_rdy R_l_in hr (by decide) (by rfl) (pa_cons (pv 6) (pa_cons (pv 2) (pa_cons (pv 3) pa_nil))))))) (fun _ _ _ _ _ => (pv 6))) pa_nil)))
      (pss_mid (ps_if (pt_cmpR op_eq (pv 0) pe_str (nomark _))
      (pss_one (ps_ret (pv 4)))
      pss_nil)
      (pss_cons (ps_set (i := 5) sc_l_times.nd rfl (Or.inl rfl) (pe_disp (pps_cons pe_str (pe_cmpR op_gt (pv 4) pe_int (nomark _)) (pps_cons pe_str (pe_cmpR op_eq (pv 4) pe_int (nomark _)) (pps_cons pe_str (pe_cmpR op_eq (pv 4) (pe_callB call_len_seq (by rfl) B.b_len (by decide +kernel) (pa_cons (pv 1) pa_nil)) (nomark _)) (pps_cons pe_str (pe_cmpR op_eq (pv 4) pe_int (nomark _)) (pps_cons pe_str (pe_cmpR op_gt (pv 4) pe_int (nomark _)) pps_nil))))) (by rfl) (by rfl) (fun z => nomatch z) (by decide)))
      (pss_one (ps_ret (pe_callTy call_int1 (by rfl) B.b_int (by decide +kernel) (pa_cons (pe_dget (hu_of hr) (pv 5) (pv 0) (fun _ _ => rfl)) pa_nil))))))), ?_⟩
    have lts := pd.len
    refine ⟨_, rfl, a, _, rfl, .inl sq, fun J wk D nD => ?_⟩
    refine lc_it wk (fun i H' => ∃ us, Same H H' ∧ H' D = some (.lst (us.map V.ref)) ∧ Pd H' us ((ps.take i).filter fun p => hldB z p m)) ⟨[], Same.new nD, upd_same, trivial⟩ (fun i H' _ h => sameK h.choose_spec.1) ?_ ?_
    · rintro i x H3 H4 hi ⟨us, ss, hD, pu⟩ ⟨rfl, hx⟩
      obtain ⟨t1, ht, rfl⟩ := map_get hx
      obtain ⟨p, hp, et0⟩ := Pd.get pd ht
      have et := ss _ _ et0
      have le := strP_le (hst p (List.mem_of_getElem? hp))
      have lu := pu.len
      have lf : ((ps.take i).filter fun p => hldB z p m).length ≤ ps.length := Nat.le_trans (List.length_filter_le ..) (List.length_take_le' ..)
      refine ⟨rfl, ?_⟩
      refine ⟨_, rfl, _, rfl, _, rfl, t1, p, m, z, rfl, SqT.hp et, le, _, rfl, ?_⟩
      rw [take_more hp, List.filter_append]
      refine ite2 (fun c => ?_) (fun c => ?_)
      · have nDt : D ≠ t1 := ne_of hD et (fun z => nomatch z)
        refine ⟨_, rfl, us.map V.ref, hD, ?_, us ++ [t1], ?_, ?_, ?_⟩
        · rw [List.length_map]
          exact small1000 (by omega)
        · intro b o hb
          rw [upd_ne (ne_of_none hb nD)]
          exact ss _ _ hb
        · rw [upd_same, List.map_append]; rfl
        · rw [show List.filter (fun p => hldB z p m) [p] = [p] from List.filter_cons_of_pos (p := fun p => hldB z p m) c]
          refine Pd.app (Pd.kp Kp.at_ (fun xs z => by rw [hD] at z; cases z) pu) ⟨?_, trivial⟩
          rw [upd_ne (Ne.symm nDt)]
          exact et
      · rw [show List.filter (fun p => hldB z p m) [p] = [] from List.filter_cons_of_neg (p := fun p => hldB z p m) c, List.append_nil]
        exact ⟨us, ss, hD, pu⟩
    rintro H3 ⟨us, ss, hD, pu⟩
    rw [List.length_map, lts, List.take_length] at pu
    refine ⟨D, _, rfl, .inl (SqL.hp hD), ?_⟩
    have eh : ((us.map V.ref).length : Int) = hldN z ps m := by rw [List.length_map, pu.len]; rfl
    rw [eh]
    refine ⟨fun σ H' => t ≠ 5 ∧ σ = [some (wndV t), some (.ref a), some (.int m), some (endsV z), some (.int (hldN z ps m)), none, none] ∧ H' = H3, ?_, ?_⟩
    · refine ⟨_, rfl, rfl, _, rfl, ?_⟩
      rw [wnd_each t6]
      refine ite2 (fun c => ?_) (fun c => ⟨fun h => c (decide_eq_true h), rfl, rfl⟩)
      obtain rfl := of_decide_eq_true c
      exact ⟨_, rfl, q H3 ss⟩
    rintro σ H4 ⟨t5, rfl, rfl⟩
    have tv : t < 5 := by omega
    refine fun R nR => ?_
    have sR := Same.new (o := .dK []) nR
    refine ⟨_, rfl, _, _, rfl, rfl, _, rfl, rfl, _, rfl, _, rfl, a, _, rfl, .inl (sR.seq (ss.seq sq)), rfl, _, rfl, rfl, _, rfl, _, _, rfl, rfl, upd_same, rowsT (decide (0 < hldN z ps m)) (decide (V.int (hldN z ps m) = .int 0)) (decide (V.int (hldN z ps m) = .int ((ts.map V.ref).length : Nat))) (decide (V.int (hldN z ps m) = .int 1)) (decide (1 < hldN z ps m)), rfl, (by show 5 ≤ 15; decide), ?_⟩
    rw [merge_rowsT]
    have sR2 : Same H4 (upd (upd H4 R (.dK [])) R (.dK (rowsT (decide (0 < hldN z ps m)) (decide (V.int (hldN z ps m) = .int 0)) (decide (V.int (hldN z ps m) = .int ((ts.map V.ref).length : Nat))) (decide (V.int (hldN z ps m) = .int 1)) (decide (1 < hldN z ps m))))) := fun b o e => by rw [upd_ne (ne_of_none e nR), upd_ne (ne_of_none e nR)]; exact e
    have val := val_rowsT tv (decide (0 < hldN z ps m)) (decide (V.int (hldN z ps m) = .int 0)) (decide (V.int (hldN z ps m) = .int ((ts.map V.ref).length : Nat))) (decide (V.int (hldN z ps m) = .int 1)) (decide (1 < hldN z ps m))
    have g := DGet.k (k := Sum.inr (wndS t)) (upd_same (H := upd H4 R (.dK [])) (a := R) (o := .dK (rowsT (decide (0 < hldN z ps m)) (decide (V.int (hldN z ps m) = .int 0)) (decide (V.int (hldN z ps m) = .int ((ts.map V.ref).length : Nat))) (decide (V.int (hldN z ps m) = .int 1)) (decide (1 < hldN z ps m)))))
    rw [val] at g
    refine ⟨_, rfl, _, rfl, R, _, rfl, g, .inr ⟨_, rfl, ?_⟩⟩
    have e := q _ (ss.trans sR2)
    have ei : ∀ x y : Int, decide (V.int x = V.int y) = decide (x = y) := fun x y => decide_eq_decide.mpr ⟨V.int.inj, fun h => by rw [h]⟩
    rw [show wtdT t z ps m = (if (if t = 0 then decide (0 < hldN z ps m) else if t = 1 then decide (V.int (hldN z ps m) = V.int 0) else if t = 2 then decide (V.int (hldN z ps m) = V.int ((ts.map V.ref).length : Nat)) else if t = 3 then decide (V.int (hldN z ps m) = V.int 1) else decide (1 < hldN z ps m)) = true then 1 else 0) from by
      unfold wtdT wndB
      rw [if_neg t5, ei, ei, ei, List.length_map, lts]] at e
    exact e
end
/-! _law_points -/
abbrev s_l_points : Stmt := topS 51
abbrev sc_l_points_N : List Str := ["_law_rows", "_law_found", "_law_row", "_law_edge_here", "_law_point"]
theorem sc_l_points : FnScope sc_l_points_N ["_law_rows"] (defScope s_l_points) := ⟨rfl, rfl, rfl, by decide +kernel, rfl, by decide +kernel, by decide +kernel⟩
def sp_l_points (K : PySem.W.Frag) : Sp := fun vs H Q _ => ∃ (a : Addr) (ts : List Addr) (ps : List Pr), vs = [.ref a] ∧ SqL K H a (ts.map V.ref) ∧ Pd H ts ps ∧ ps.length ≤ 100 ∧ ∀ r (ms : List Int) H', H r = none → H' r = some (.lst (ms.map V.int)) → ms ≠ [] → ms.length ≤ 401 → (∀ m ∈ ms, -10000000000000000000000000000000 < m ∧ m < 10000000000000000000000000000000) → Same H H' → Q (.ref r) H'
section
variable {P : Program} {w : World} {K : PySem.W.Frag} {mg : Str → Option Value} {bh : Heap}
theorem ok_l_points {f : Addr} {fd : FuncData}  (B : Blt mg) (T : Txt K mg)  (F : Fun K "_law_points" "_law_points" s_l_points f fd) : FnOk P w K mg bh CX0 1 f fd ["_law_rows"] (sp_l_points K) := by
  refine F.ok sc_l_points (fun vs H Q E h => ?_) (fun cdv A outer s H vs Q E hr h => ?_)
  · obtain ⟨a, ts, ps, rfl, _⟩ := h
    rfl
  · obtain ⟨a, ts, ps, rfl, sq, pd, hlen, q⟩ := h
    refine ⟨_, (pss_cons (ps_set (i := 1) sc_l_points.nd rfl (Or.inr rfl) (pe_lst (pa_cons (pe_op op_add (pe_un un_neg (pe_op op_pow pe_int pe_int)) pe_int) pa_nil)))
      (pss_cons (ps_for PassesOwn.never rfl (pi_list (pv 0)) (pg_name (i := 2) sc_l_points.nd rfl (Or.inl rfl))
      (pss_one (ps_for PassesOwn.never rfl (pi_sq (pv 2)) (pg_name (i := 3) sc_l_points.nd rfl (Or.inl rfl))
      (pss_one (ps_expr (pe_bm PySem.F.plainAttrs_list PySem.F.slot_list_extend PySem.F.type_list_extend mt_extend (pv 1) (pa_cons (pe_lc (own := [("_law_point", 4)]) (by rfl) sc_l_points.nd (pi_sq (pe_lst (pa_cons (pv 3) (pa_cons (pe_op op_add (pv 3) pe_int) pa_nil)))) (blkOk_by (own := [("_law_point", 4)]) (N := sc_l_points_N) (sc := defScope s_l_points) (by decide +kernel)) (fun _ _ _ _ _ => (pg_name (i := 4) sc_l_points.nd rfl (Or.inl rfl))) (fun _ _ _ _ _ => (pts_one (PW.pt (pw_and (pt_chain op_lt op_lt (pe_un un_neg (pe_op op_pow pe_int pe_int)) (pv 4) (pe_op op_pow pe_int pe_int)) (pw_and1 (pt_cmpR (op_notInK (K := K)) (pv 4) (pv 1) (by rfl))))))) (fun _ _ _ _ _ => (pv 4))) pa_nil)))))))
      (pss_one (ps_ret (pe_callB cr_sortedI (by rfl) B.b_sorted (by decide +kernel) (pa_cons (pv 1) pa_nil)))))), ?_⟩
    have lts := pd.len
    refine ⟨_, _, rfl, rfl, ⟨by decide, by decide, by decide⟩, _, rfl, _, _, rfl, rfl, (by show 1 ≤ sizeLine; decide), fun L nL => ?_⟩
    have sL := Same.new (o := .lst [.int (-10 ^ (31 : Int).toNat + 1)]) nL
    refine ⟨_, rfl, a, rfl, ⟨_, sL.seq sq⟩, ?_⟩
    refine for_list (K := K) (a := a) (xs := ts.map V.ref) (fun i σ H' => ∃ y2 y3 fs, σ = [some (.ref a), some (.ref L), y2, y3, none] ∧ H' L = some (.lst (fs.map V.int)) ∧ fs ≠ [] ∧ fs.length ≤ 1 + 4 * i ∧ (∀ m ∈ fs, -10000000000000000000000000000000 < m ∧ m < 10000000000000000000000000000000) ∧ Same H H')
      ⟨none, none, [-10 ^ (31 : Int).toNat + 1], rfl, upd_same, (fun z => nomatch z), Nat.le_refl _, (fun m hm => by rw [List.mem_singleton.mp hm]; decide), sL⟩ (fun i σ H' _ h => by obtain ⟨_, _, _, _, _, _, _, _, s⟩ := h; exact s.seq sq) ?_ ?_
    · rintro i x σ H3 hx ⟨y2, y3, fs, rfl, hL, hne, hfl, hfr, s3⟩
      obtain ⟨t, ht, rfl⟩ := map_get hx
      obtain ⟨p, hp, et0⟩ := Pd.get pd ht
      have et := s3 _ _ et0
      have nLt : t ≠ L := ne_of et hL (fun z => nomatch z)
      have li : i < ps.length := (List.getElem?_eq_some_iff.mp hp).1
      refine ⟨_, rfl, t, _, rfl, .inr (SqT.hp et), fun J wk => ?_⟩
      refine for_it wk (fun i' σ H' => ∃ y3 fs, σ = [some (.ref a), some (.ref L), some (.ref t), y3, none] ∧ H' L = some (.lst (fs.map V.int)) ∧ fs ≠ [] ∧ fs.length ≤ 1 + 4 * i + 2 * i' ∧ (∀ m ∈ fs, -10000000000000000000000000000000 < m ∧ m < 10000000000000000000000000000000) ∧ Same H H' ∧ Kp L H3 H')
        ⟨y3, fs, rfl, hL, hne, by omega, hfr, s3, Kp.refl⟩ (fun i' σ H' _ h => by obtain ⟨_, _, _, _, _, _, _, _, k⟩ := h; exact sqK_kp k nLt) ?_ ?_
      · rintro i' x σ H4 H5 hi' ⟨y3, fs, rfl, hL, hne, hfl, hfr, s4, k4⟩ ⟨rfl, hx⟩
        obtain ⟨e, rfl⟩ : ∃ e : Int, x = .int e := by
          match i', hx with
          | 0, hx => exact ⟨p.1, (Option.some.inj hx).symm⟩
          | 1, hx => exact ⟨p.2, (Option.some.inj hx).symm⟩
          | n + 2, hx => exact absurd hx (by simp)
        have li' : i' < 2 := hi'
        have lfs : (fs.map V.int).length ≤ 1000 := by rw [List.length_map]; omega
        refine ⟨_, rfl, .inl ⟨rfl, _, SqL.hp hL⟩, _, rfl, _, rfl, _, _, rfl, rfl, (by show 2 ≤ sizeLine; decide), fun M nM => ?_⟩
        have sM := Same.new (o := .lst [.int e, .int (e + 1)]) nM
        refine ⟨M, _, rfl, .inl (SqL.hp upd_same), fun J2 wk2 D nD => ?_⟩
        refine lc_it wk2 (fun k H' => ∃ gs : List Int, Same (upd H5 M (.lst [.int e, .int (e + 1)])) H' ∧ H' D = some (.lst (gs.map V.int)) ∧ gs.length ≤ k ∧ ∀ m ∈ gs, -10000000000000000000000000000000 < m ∧ m < 10000000000000000000000000000000) ⟨[], Same.new nD, upd_same, Nat.le_refl _, (fun m h => nomatch h)⟩ (fun k H' _ h => sameK h.choose_spec.1) ?_ ?_
        · rintro k x H6 H7 hk ⟨gs, s6, hD, hgl, hgr⟩ ⟨rfl, hx⟩
          obtain ⟨n, rfl⟩ : ∃ n : Int, x = .int n := by
            match k, hx with
            | 0, hx => exact ⟨e, (Option.some.inj hx).symm⟩
            | 1, hx => exact ⟨e + 1, (Option.some.inj hx).symm⟩
            | n + 2, hx => exact absurd hx (by simp)
          have lk : k < 2 := hk
          have hL6 := s6 _ _ (sM _ _ hL)
          have keep : ∃ gs' : List Int, Same (upd H5 M (.lst [.int e, .int (e + 1)])) H7 ∧ H7 D = some (.lst (gs'.map V.int)) ∧ gs'.length ≤ k + 1 ∧ ∀ m ∈ gs', -10000000000000000000000000000000 < m ∧ m < 10000000000000000000000000000000 := ⟨gs, s6, hD, by omega, hgr⟩
          refine ⟨rfl, ?_⟩
          refine ⟨_, _, rfl, rfl, ⟨by decide, by decide, by decide⟩, _, rfl, _, rfl, _, _, rfl, rfl, _, rfl, ?_⟩
          refine ite2 (fun c1 => ?_) (fun c1 => ⟨_, rfl, iteF keep⟩)
          refine ⟨_, _, rfl, rfl, ⟨by decide, by decide, by decide⟩, _, _, rfl, rfl, _, rfl, ?_⟩
          refine ite2 (fun c2 => ?_) (fun c2 => keep)
          have r1 : -10000000000000000000000000000000 < n := of_decide_eq_true c1
          have r2 : n < 10000000000000000000000000000000 := of_decide_eq_true c2
          refine ⟨_, rfl, _, rfl, L, _, rfl, .inl (SqL.hp hL6), rfl, flat_ints fs, _, rfl, ?_⟩
          refine ite2 (fun c3 => ?_) (fun c3 => keep)
          refine ⟨_, rfl, _, hD, by rw [List.length_map]; exact small1000 (by omega), gs ++ [n], fun w o e => by rw [upd_ne (ne_of_none e nD)]; exact s6 _ _ e, by rw [upd_same, List.map_append]; rfl, by rw [List.length_append, List.length_singleton]; omega, fun m hm => ?_⟩
          rcases List.mem_append.mp hm with hm | hm
          · exact hgr m hm
          · rw [List.mem_singleton.mp hm]; exact ⟨r1, r2⟩
        · rintro H6 ⟨gs, s6, hD, hgl, hgr⟩
          have hL6 := s6 _ _ (sM _ _ hL)
          have lg : gs.length ≤ 2 := hgl
          refine ⟨L, D, _, _, rfl, rfl, hL6, hD, ?_, _, fs ++ gs, rfl, by rw [upd_same, List.map_append], (fun z => hne (List.append_eq_nil_iff.mp z).1), by rw [List.length_append]; omega, ?_, ?_, ?_⟩
          · rw [List.length_map] at lfs ⊢
            rw [List.length_map]
            have : fs.length + gs.length ≤ 1000 := by omega
            exact Nat.le_of_lt (small1000 this)
          · intro m hm
            rcases List.mem_append.mp hm with hm | hm
            · exact hfr m hm
            · exact hgr m hm
          · exact fun w o e => by rw [upd_ne (ne_of_none e nL)]; exact s6 _ _ (sM _ _ (s4 _ _ e))
          · exact k4.trans ((Kp.same (sM.trans s6)).trans Kp.at_)
      · rintro σ H4 ⟨y3, fs, rfl, hL, hne, hfl, hfr, s4, k4⟩
        exact ⟨_, _, fs, rfl, hL, hne, by simp at hfl; omega, hfr, s4⟩
    · rintro σ H3 ⟨y2, y3, fs, rfl, hL, hne, hfl, hfr, s3⟩
      refine ⟨_, rfl, L, fs, rfl, SqL.hp hL, fun ns r pm _ nr => ?_⟩
      have sr := Same.new (o := .lst (ns.map V.int)) nr
      refine q r ns _ (s3.free nr) upd_same (fun z => hne ?_) ?_ (fun m hm => hfr m (pm.mem_iff.mp hm)) (s3.trans sr)
      · rw [z] at pm
        exact pm.symm.eq_nil
      · rw [pm.length_eq]
        rw [List.length_map] at hfl
        omega
end
/-! _law_events -/
abbrev s_l_events : Stmt := topS 52
abbrev sc_l_events_N : List Str := ["_law_bag_here", "_law_most", "_law_near", "_law_found", "_law_turn"]
theorem sc_l_events : FnScope sc_l_events_N ["_law_bag_here", "_law_most", "_law_near"] (defScope s_l_events) := ⟨rfl, rfl, rfl, by decide +kernel, rfl, by decide +kernel, by decide +kernel⟩
def sp_l_events (K : PySem.W.Frag) : Sp := fun vs H Q _ => ∃ (p : Addr) (n m : Int), vs = [.ref p, .int n, .int m] ∧ BagN H p ∧ 0 ≤ n ∧ n ≤ 100 ∧ 0 < m ∧ m ≤ 1000000 ∧ ∀ a ts es H', H a = none → H' a = some (.lst (ts.map V.ref)) → Ev H' ts es → (∀ x ∈ es, evP x = true) → (es.length : Int) ≤ n → BagN H' p → Kp p H H' → Q (.ref a) H'
section
variable {P : Program} {w : World} {K : PySem.W.Frag} {mg : Str → Option Value} {bh : Heap}
theorem ok_l_events {f : Addr} {fd : FuncData} {f_l_take : Addr} {fd_l_take : FuncData} {f_l_of : Addr} {fd_l_of : FuncData} {f_l_edge : Addr} {fd_l_edge : FuncData} (B : Blt mg) (T : Txt K mg) (R_l_take : Rdy P w K mg bh "_law_take" 1 ["_law_bag_here", "_law_many"] (sp_l_take K) f_l_take fd_l_take) (R_l_of : Rdy P w K mg bh "_law_of" 2 ["_law_bag_here", "_law_some"] (sp_l_of K) f_l_of fd_l_of) (R_l_edge : Rdy P w K mg bh "_law_edge" 3 ["_law_bag_here", "_law_near"] (sp_l_edge K) f_l_edge fd_l_edge) (F : Fun K "_law_events" "_law_events" s_l_events f fd) : FnOk P w K mg bh CX0 4 f fd ["_law_bag_here", "_law_most", "_law_near"] (sp_l_events K) := by
  refine F.ok sc_l_events (fun vs H Q E h => ?_) (fun cdv A outer s H vs Q E hr h => ?_)
  · obtain ⟨p, n, m, rfl, _⟩ := h
    rfl
  · obtain ⟨p, n, m, rfl, bg, n0, n1, m0, m1, q⟩ := h
    refine ⟨_, (pss_cons (ps_set (i := 3) sc_l_events.nd rfl (Or.inl rfl) (pe_lst pa_nil))
      (pss_cons (ps_for PassesOwn.never rfl (pi_range1 (by rfl) B.b_range (pa_cons (pe_rdy R_l_take hr (by decide) (by rfl) (pa_cons (pv 0) (pa_cons (pe_op op_add (pv 1) pe_int) pa_nil))) pa_nil)) (pg_name (i := 4) sc_l_events.nd rfl (Or.inl rfl))
      (pss_one (ps_expr (pe_bm PySem.F.plainAttrs_list PySem.F.slot_list_append PySem.F.type_list_append mt_append (pv 3) (pa_cons (pe_tup (pa_cons (pe_rdy R_l_of hr (by decide) (by rfl) (pa_cons (pv 0) (pa_cons (pe_lst (pa_cons pe_str (pa_cons pe_str pa_nil))) pa_nil))) (pa_cons (pe_rdy R_l_edge hr (by decide) (by rfl) (pa_cons (pv 0) (pa_cons (pv 2) pa_nil))) pa_nil))) pa_nil)))))
      (pss_one (ps_ret (pv 3))))), ?_⟩
    refine ⟨Nat.zero_le _, fun L nL => ?_⟩
    have sL := Same.new (o := .lst []) nL
    have neL : L ≠ p := bagN_none bg nL
    refine ⟨_, rfl, _, rfl, _, _, rfl, rfl, p, n + 1, rfl, bg.same sL, by omega, by omega, fun k H1 k0 k1 bg1 bt1 => ?_⟩
    have hL1 : H1 L = some (.lst []) := (bt1 L neL).trans upd_same
    have kp1 : Kp p H H1 := (Kp.same sL).trans bt1.kp
    refine ⟨k, rfl, by omega, by omega, ?_⟩
    refine for_range (lo := 0) (n := k.toNat) (fun i σ H' => ∃ y ts es, σ = [some (.ref p), some (.int n), some (.int m), some (.ref L), y] ∧ H' L = some (.lst (ts.map V.ref)) ∧ Ev H' ts es ∧ (∀ x ∈ es, evP x = true) ∧ es.length ≤ i ∧ BagN H' p ∧ Ks p L H1 H')
      ⟨none, [], [], rfl, hL1, trivial, (fun x h => nomatch h), Nat.zero_le _, bg1, Ks.refl⟩ ?_ ?_
    · rintro i σ H2 hi ⟨y, ts, es, rfl, hL2, ev, hs, hl, bg2, k2⟩
      have li := ev.len
      refine ⟨_, rfl, .inl ⟨rfl, _, SqL.hp hL2⟩, _, rfl, (by show 2 ≤ sizeLine; decide), fun M nM => ?_⟩
      have sM := Same.new (o := .lst [.str "in", .str "out"]) nM
      refine ⟨p, M, _, rfl, bg2.same sM, SqL.hp upd_same, bagN_none bg2 nM, (by show 0 < 2; decide), (by show 2 ≤ 1000; decide), fun j v H3 hj bg3 bt3 => ?_⟩
      obtain ⟨b, rfl⟩ : ∃ b, v = evW b := by
        match j, hj with
        | 0, hj => exact ⟨true, (Option.some.inj hj).symm⟩
        | 1, hj => exact ⟨false, (Option.some.inj hj).symm⟩
        | n + 2, hj => exact absurd hj (by simp)
      refine ⟨_, rfl, _, rfl, p, m, rfl, bg3, m0, m1, fun e H4 e0 e1 bg4 k4 => ⟨(by show 2 ≤ sizeLine; decide), fun T nT => ?_⟩⟩
      have hL3 := (bt3 L neL).trans (sM _ _ hL2)
      have hL4 := k4 L _ neL hL3
      have ev4 : Ev H4 ts es := ((ev.same sM).kp bt3.kp (bg2.same sM).ne_tup).kp k4 bg3.ne_tup
      have sT := Same.new (o := .tup [evW b, .int e]) nT
      have hL5 := sT _ _ hL4
      refine ⟨L, _, _, rfl, rfl, hL5, by rw [List.length_map]; exact small1000 (by omega), ?_⟩
      refine ⟨_, ts ++ [T], es ++ [(b, e)], rfl, by rw [upd_same, List.map_append]; rfl, ?_, ?_, by rw [List.length_append, List.length_singleton]; omega, (bg4.same sT).kp Kp.at_ (Ne.symm neL), ((k2.trans (Ks.same sM)).trans ((Ks.kp bt3.kp).trans (Ks.kp k4))).trans ((Ks.same sT).trans (Ks.kq Kp.at_))⟩
      · refine Ev.app (Ev.kp Kp.at_ (fun xs z => by rw [hL5] at z; cases z) (ev4.same sT)) ⟨?_, trivial⟩
        rw [upd_ne (Ne.symm (ne_of_none hL4 nT)), upd_same]
      · intro x hx
        rcases List.mem_append.mp hx with hx | hx
        · exact hs x hx
        · rw [List.mem_singleton.mp hx]
          show (decide (-1000000000000000000000000000000 ≤ e) && decide (e ≤ 1000000000000000000000000000000)) = true
          rw [decide_eq_true e0, decide_eq_true e1]; rfl
    · rintro σ H2 ⟨y, ts, es, rfl, hL2, ev, hs, hl, bg2, k2⟩
      refine ⟨_, rfl, q L ts es H2 nL hL2 ev hs (by omega) bg2 ?_⟩
      intro b o hb e
      exact k2 b o hb (ne_of_none e nL) (kp1 b o hb e)
end
/-! _law_events_sorted -/
abbrev s_l_events_sorted : Stmt := topS 53
abbrev sc_l_events_sorted_N : List Str := ["_law_order", "_law_events_here", "_law_late", "_law_found", "_law_item", "_law_key", "_law_at", "_law_one"]
theorem sc_l_events_sorted : FnScope sc_l_events_sorted_N ["_law_order", "_law_events_here"] (defScope s_l_events_sorted) := ⟨rfl, rfl, rfl, by decide +kernel, rfl, by decide +kernel, by decide +kernel⟩
def sp_l_events_sorted (K : PySem.W.Frag) : Sp := fun vs H Q _ => ∃ (a : Addr) (w : Str) (ts : List Addr) (es : List Evt), vs = [.str w, .ref a] ∧ (w = "at" ∨ w = "at in" ∨ w = "at out") ∧ SqL K H a (ts.map V.ref) ∧ Ev H ts es ∧ (∀ x ∈ es, evP x = true) ∧ es.length ≤ 100 ∧ ∀ r us fs H', H r = none → H' r = some (.lst (us.map V.ref)) → Ev H' us fs → (∀ x ∈ fs, evP x = true) → fs.Pairwise (fun x y => x.2 ≤ y.2) → fs.length = es.length → Same H H' → Q (.ref r) H'
section
variable {P : Program} {w : World} {K : PySem.W.Frag} {mg : Str → Option Value} {bh : Heap}
theorem ok_l_events_sorted {f : Addr} {fd : FuncData}  (B : Blt mg) (T : Txt K mg)  (F : Fun K "_law_events_sorted" "_law_events_sorted" s_l_events_sorted f fd) : FnOk P w K mg bh CX0 1 f fd ["_law_order", "_law_events_here"] (sp_l_events_sorted K) := by
  refine F.ok sc_l_events_sorted (fun vs H Q E h => ?_) (fun cdv A outer s H vs Q E hr h => ?_)
  · obtain ⟨a, w, ts, es, rfl, _⟩ := h
    rfl
  · obtain ⟨a, w, ts, es, rfl, hw, sq, ev, hes, hlen, q⟩ := h
    refine ⟨_, (pss_cons (ps_set (i := 2) sc_l_events_sorted.nd rfl (Or.inr rfl) (pe_dget (hu_of hr) (pe_disp (pps_cons pe_str pe_str (pps_cons pe_str pe_str (pps_cons pe_str pe_str pps_nil))) (by rfl) (by rfl) (fun z => nomatch z) (by decide)) (pv 0) (fun _ _ => rfl)))
      (pss_cons (ps_set (i := 3) sc_l_events_sorted.nd rfl (Or.inl rfl) (pe_lst pa_nil))
      (pss_cons (ps_for PassesOwn.never rfl (pi_list (pv 1)) (pg_name (i := 4) sc_l_events_sorted.nd rfl (Or.inl rfl))
      (pss_cons (ps_set (i := 5) sc_l_events_sorted.nd rfl (Or.inr rfl) (pe_tup (pa_cons (pe_ix ix_tup (pv 4) pe_int (fun _ _ => rfl)) (pa_cons (pe_callTy call_int1 (by rfl) B.b_int (by decide +kernel) (pa_cons (pe_cmpR op_eq (pe_ix ix_tup (pv 4) pe_int (fun _ _ => rfl)) (pv 2) (nomark _)) pa_nil)) pa_nil))))
      (pss_cons (ps_set (i := 6) sc_l_events_sorted.nd rfl (Or.inl rfl) (pe_callB call_len_seq (by rfl) B.b_len (by decide +kernel) (pa_cons (pe_lc (own := [("_law_one", 7)]) (by rfl) sc_l_events_sorted.nd (pi_sq (pv 3)) (blkOk_by (own := [("_law_one", 7)]) (N := sc_l_events_sorted_N) (sc := defScope s_l_events_sorted) (by decide +kernel)) (fun _ _ _ _ _ => (pg_name (i := 7) sc_l_events_sorted.nd rfl (Or.inl rfl))) (fun _ _ _ _ _ => (pts_one (pt_cmpR (op_leTK (K := K) (Nat.lt_of_le_of_lt (Nat.le_add_right _ 64) hr.units)) (pe_tup (pa_cons (pe_ix (ix_tupK (K := K)) (pv 7) pe_int (fun _ _ => rfl)) (pa_cons (pe_callTy call_int1 (by rfl) B.b_int (by decide +kernel) (pa_cons (pe_cmpR op_eq (pe_ix (ix_tupK (K := K)) (pv 7) pe_int (fun _ _ => rfl)) (pv 2) (nomark _)) pa_nil)) pa_nil))) (pv 5) (nomark _)))) (fun _ _ _ _ _ => (pv 7))) pa_nil)))
      (pss_one (ps_expr (pe_bm PySem.F.plainAttrs_list PySem.F.slot_list_insert PySem.F.type_list_insert mt_insert (pv 3) (pa_cons (pv 6) (pa_cons (pv 4) pa_nil))))))))
      (pss_one (ps_ret (pv 3)))))), ?_⟩
    have lts := ev.len
    refine fun R nR => ?_
    have sR0 := Same.new (o := .dK []) nR
    refine ⟨upd_same, lateK, rfl, (by show 3 ≤ 15; decide), ?_⟩
    rw [merge_late]
    obtain ⟨lt, el⟩ := late_of hw
    have sR : Same H (upd (upd H R (.dK [])) R (.dK lateK)) := fun b o e => by rw [upd_ne (ne_of_none e nR), upd_ne (ne_of_none e nR)]; exact e
    have g := DGet.k (k := Sum.inr w) (upd_same (H := upd H R (.dK [])) (a := R) (o := .dK lateK))
    rw [el] at g
    refine ⟨_, rfl, R, _, rfl, g, ?_⟩
    generalize (upd (upd H R (.dK [])) R (.dK lateK)) = H1 at *
    refine ⟨Nat.zero_le _, fun L nL => ?_⟩
    have sL := Same.new (o := .lst []) nL
    have s12 := sR.trans sL
    refine ⟨_, rfl, a, rfl, ⟨_, s12.seq sq⟩, ?_⟩
    obtain ⟨κ, eκ⟩ : ∃ κ : Evt → Pr, ∀ e, κ e = (e.2, if decide (evW e.1 = .str lt) = true then 1 else 0) := ⟨_, fun _ => rfl⟩
    refine for_list (K := K) (a := a) (xs := ts.map V.ref) (fun i σ H' => ∃ y4 y5 y6 us fs, σ = [some (.str w), some (.ref a), some (.str lt), some (.ref L), y4, y5, y6, none] ∧ H' L = some (.lst (us.map V.ref)) ∧ Ev H' us fs ∧ (∀ x ∈ fs, evP x = true) ∧ fs.Pairwise (fun x y => ple (κ x) (κ y)) ∧ fs.length = i ∧ Same H1 H')
      ⟨none, none, none, [], [], rfl, upd_same, trivial, (fun x h => nomatch h), .nil, rfl, sL⟩ (fun i σ H' _ h => by obtain ⟨_, _, _, _, _, _, _, _, _, _, _, s⟩ := h; exact (sR.trans s).seq sq) ?_ ?_
    · rintro i x σ H3 hx ⟨y4, y5, y6, us, fs, rfl, hL, ef, hfs, hso, hfl, s3⟩
      obtain ⟨t, ht, rfl⟩ := map_get hx
      obtain ⟨e, he, et0⟩ := Ev.get ev ht
      have et := (sR.trans s3) _ _ et0
      have lu := ef.len
      have li : i < es.length := (List.getElem?_eq_some_iff.mp he).1
      have sc : ∀ b : Bool, scal (evW b) (.str lt) = true := fun b => by cases b <;> rfl
      refine ⟨_, rfl, t, _, 1, _, rfl, rfl, SqT.hp et, rfl, _, rfl, t, _, 0, _, rfl, rfl, SqT.hp et, rfl, _, rfl, sc _, .inr ⟨_, rfl, (by show 2 ≤ sizeLine; decide), fun T nT => ?_⟩⟩
      have sT := Same.new (o := .tup [.int e.2, .int (if decide (evW e.1 = .str lt) = true then 1 else 0)]) nT
      have hT : (upd H3 T (.tup [.int e.2, .int (if decide (evW e.1 = .str lt) = true then 1 else 0)])) T = some (.tup [.int e.2, .int (if decide (evW e.1 = .str lt) = true then 1 else 0)]) := upd_same
      have s4 := s3.trans sT
      have hL4 := sT _ _ hL
      have ef4 := ef.same sT
      have et4 := sT _ _ et
      generalize (upd H3 T (.tup [.int e.2, .int (if decide (evW e.1 = .str lt) = true then 1 else 0)])) = H4 at *
      refine ⟨_, rfl, L, _, rfl, .inl (SqL.hp hL4), fun J wk D nD => ?_⟩
      refine lc_it wk (fun k H' => ∃ xs, Same H4 H' ∧ H' D = some (.lst xs) ∧ xs.length = cntL κ (fs.take k) (κ e)) ⟨[], Same.new nD, upd_same, rfl⟩ (fun k H' _ h => sameK h.choose_spec.1) ?_ ?_
      · rintro k x H5 H6 hk ⟨xs, s5, hD, hxl⟩ ⟨rfl, hx⟩
        obtain ⟨t1, ht1, rfl⟩ := map_get hx
        obtain ⟨e1, he1, et1⟩ := Ev.get ef4 ht1
        have et1 := s5 _ _ et1
        refine ⟨rfl, ?_⟩
        refine ⟨_, rfl, t1, _, 1, _, rfl, rfl, SqT.hp et1, rfl, _, rfl, t1, _, 0, _, rfl, rfl, SqT.hp et1, rfl, _, rfl, sc _, .inr ⟨_, rfl, (by show 2 ≤ sizeLine; decide), fun T1 nT1 => ?_⟩⟩
        have sT1 := Same.new (o := .tup [.int e1.2, .int (if decide (evW e1.1 = .str lt) = true then 1 else 0)]) nT1
        refine ⟨_, rfl, T1, T, [e1.2, if decide (evW e1.1 = .str lt) = true then 1 else 0], [e.2, if decide (evW e.1 = .str lt) = true then 1 else 0], rfl, rfl, SqT.hp upd_same, SqT.hp (sT1 _ _ (s5 _ _ hT)), _, rfl, ?_⟩
        rw [lex2, ← eκ, ← eκ]
        have hD' := sT1 _ _ hD
        have lc : cntL κ (fs.take (k + 1)) (κ e) = cntL κ (fs.take k) (κ e) + (if decide (ple (κ e1) (κ e)) = true then 1 else 0) := by
          rw [take_more he1, cntL_snoc]
        refine ite2 (fun c => ?_) (fun c => ?_)
        · refine ⟨_, rfl, xs, hD', ?_, xs ++ [.ref t1], fun w o e => by rw [upd_ne (ne_of_none e nD)]; exact sT1 _ _ (s5 _ _ e), upd_same, by rw [List.length_append, List.length_singleton, hxl, lc, if_pos c]⟩
          have := cntL_le κ (fs.take k) (κ e)
          have := List.length_take_le' k fs
          exact small1000 (by omega)
        · exact ⟨xs, s5.trans sT1, hD', by rw [hxl, lc, if_neg c]; rfl⟩
      · rintro H5 ⟨xs, s5, hD, hxl⟩
        rw [List.length_map, lu, List.take_length] at hxl
        have hL5 := s5 _ _ hL4
        have cl := cntL_le κ fs (κ e)
        refine ⟨D, _, rfl, .inl (SqL.hp hD), ?_⟩
        rw [hxl]
        refine ⟨_, rfl, .inl ⟨rfl, _, SqL.hp hL5⟩, _, rfl, _, rfl, L, _, _, _, rfl, rfl, hL5, by rw [List.length_map]; exact small1000 (by omega), by omega, by omega, ?_⟩
        have s35 := s4.trans s5
        have ef5 := ef4.same s5
        have so := ins_srt κ e fs hso
        refine ⟨_, _, _, us.take (cntL κ fs (κ e)) ++ [t] ++ us.drop (cntL κ fs (κ e)), fs.take (cntL κ fs (κ e)) ++ [e] ++ fs.drop (cntL κ fs (κ e)), rfl, ?_, ?_, ?_, so, ?_, ?_⟩
        · rw [upd_same, Int.toNat_natCast, List.map_append, List.map_append, List.map_take, List.map_drop]; rfl
        · have kp : Kp L H5 (upd H5 L (.lst (((us.map V.ref).take (cntL κ fs (κ e) : Int).toNat) ++ [.ref t] ++ ((us.map V.ref).drop (cntL κ fs (κ e) : Int).toNat)))) := Kp.at_
          refine Ev.kp kp (fun xs z => by rw [hL5] at z; cases z) (Ev.app (Ev.app (Ev.take _ ef5) ⟨s5 _ _ et4, trivial⟩) (Ev.drop _ ef5))
        · intro x hx
          rcases List.mem_append.mp hx with hx | hx
          · rcases List.mem_append.mp hx with hx | hx
            · exact hfs x (List.mem_of_mem_take hx)
            · rw [List.mem_singleton.mp hx]; exact hes e (List.mem_of_getElem? he)
          · exact hfs x (List.mem_of_mem_drop hx)
        · rw [List.length_append, List.length_append, List.length_take, List.length_drop, List.length_singleton]; omega
        · exact fun w o e => by rw [upd_ne (ne_of_none e nL)]; exact s35 _ _ e
    · rintro σ H3 ⟨y4, y5, y6, us, fs, rfl, hL, ef, hfs, hso, hfl, s3⟩
      refine ⟨_, rfl, q L us fs H3 ((sR).free nL) hL ef hfs (hso.imp fun h => ?_) (by rw [hfl, List.length_map, lts]) (sR.trans s3)⟩
      rw [eκ, eκ] at h
      unfold ple at h
      simp only at h
      omega
end
/-! _law_is_inside_right -/
abbrev s_l_is_inside_right : Stmt := topS 54
abbrev sc_l_is_inside_right_N : List Str := ["_law_bag_here", "_law_order", "_law_near", "_law_events_here", "_law_pair", "_law_kept", "_law_points_here", "_law_word", "_law_wish", "_law_bounded", "_law_point", "_law_state", "_law_one", "_law_due"]
theorem sc_l_is_inside_right : FnScope sc_l_is_inside_right_N ["_law_bag_here"] (defScope s_l_is_inside_right) := ⟨rfl, rfl, rfl, by decide +kernel, rfl, by decide +kernel, by decide +kernel⟩
def sp_l_is_inside_right (K : PySem.W.Frag) : Sp := fun vs H Q _ => ∃ p : Addr, vs = [.ref p] ∧ BagN H p ∧ ∀ H', BagN H' p → Kp p H H' → Q (.bl true) H'
section
variable {P : Program} {w : World} {K : PySem.W.Frag} {mg : Str → Option Value} {bh : Heap}
theorem ok_l_is_inside_right {f : Addr} {fd : FuncData} {C : Addr} {f_init f_w : Addr} {fd_init fd_w : FuncData} {f_l_of : Addr} {fd_l_of : FuncData} {f_l_events_sorted : Addr} {fd_l_events_sorted : FuncData} {f_l_window : Addr} {fd_l_window : FuncData} {f_l_points : Addr} {fd_l_points : FuncData} {f_l_take : Addr} {fd_l_take : FuncData} {f_l_events : Addr} {fd_l_events : FuncData} {f_l_in : Addr} {fd_l_in : FuncData} (B : Blt mg) (T : Txt K mg) (AC : MomC K C) (MA : RdyMo P w K mg bh "Moments" C 2 ["self", "which", "within", "form", "ends"] [.bl false, .str "one", .str "half"] ["within", "form", "ends"] [.bl false, .str "one"] (sp_Moments_init K C) f_init fd_init) (MW : RdyMt P w K mg bh C "wanted" 6 ["self", "items", "moment", "window"] [.non] (sp_Moments_wanted K C) f_w fd_w) (R_l_of : Rdy P w K mg bh "_law_of" 2 ["_law_bag_here", "_law_some"] (sp_l_of K) f_l_of fd_l_of) (R_l_events_sorted : Rdy P w K mg bh "_law_events_sorted" 1 ["_law_order", "_law_events_here"] (sp_l_events_sorted K) f_l_events_sorted fd_l_events_sorted) (R_l_window : Rdy P w K mg bh "_law_window" 3 ["_law_bag_here", "_law_near"] (sp_l_window K) f_l_window fd_l_window) (R_l_points : Rdy P w K mg bh "_law_points" 1 ["_law_rows"] (sp_l_points K) f_l_points fd_l_points) (R_l_take : Rdy P w K mg bh "_law_take" 1 ["_law_bag_here", "_law_many"] (sp_l_take K) f_l_take fd_l_take) (R_l_events : Rdy P w K mg bh "_law_events" 4 ["_law_bag_here", "_law_most", "_law_near"] (sp_l_events K) f_l_events fd_l_events) (R_l_in : Rdy P w K mg bh "_law_in" 1 ["_law_pair", "_law_point", "_law_word"] (sp_l_in K) f_l_in fd_l_in) (F : Fun K "_law_is_inside_right" "_law_is_inside_right" s_l_is_inside_right f fd) : FnG P w K mg bh 9 f fd ["_law_bag_here"] (sp_l_is_inside_right K) := by
  refine Fun.okG F sc_l_is_inside_right (fun vs H Q E h => ?_) (fun cdv A outer s H vs Q E gd hr h => ?_)
  · obtain ⟨p, rfl, _⟩ := h
    rfl
  · obtain ⟨p, rfl, bg, q⟩ := h
    obtain ⟨gA, kbA⟩ := MA.kb
    obtain ⟨gB, kbB⟩ := MA.kb1
    obtain ⟨dsA, hvA, bdA⟩ := MA.bd1
    obtain ⟨dsW, hvW, bdW⟩ := MW.bd1
    refine ⟨_, (pss_cons (ps_par (i := 1) (j := 2) (by rfl) sc_l_is_inside_right.nd rfl rfl (by decide) rfl rfl (pa_cons (pe_rdy R_l_of hr (by decide) (by rfl) (pa_cons (pv 0) (pa_cons (pe_lst (pa_cons pe_str (pa_cons pe_str (pa_cons pe_str pa_nil)))) pa_nil))) (pa_cons (pe_op op_add pe_int (pe_rdy R_l_take hr (by decide) (by rfl) (pa_cons (pv 0) (pa_cons pe_int pa_nil)))) pa_nil)) (by rfl))
      (pss_cons (ps_par (i := 3) (j := 4) (by rfl) sc_l_is_inside_right.nd rfl rfl (by decide) rfl rfl (pa_cons (pe_rdy R_l_events_sorted hr (by decide) (by rfl) (pa_cons (pv 1) (pa_cons (pe_rdy R_l_events hr (by decide) (by rfl) (pa_cons (pv 0) (pa_cons pe_int (pa_cons (pv 2) pa_nil)))) pa_nil))) (pa_cons (pe_rdy R_l_window hr (by decide) (by rfl) (pa_cons (pv 0) (pa_cons pe_int pa_nil))) pa_nil)) (by rfl))
      (pss_cons (ps_set (i := 5) sc_l_is_inside_right.nd rfl (Or.inl rfl) (pe_callTy call_list_of (by rfl) B.b_list (by decide +kernel) (pa_cons (pv 3) pa_nil)))
      (pss_cons (ps_set (i := 6) sc_l_is_inside_right.nd rfl (Or.inl rfl) (pe_op op_cat (pe_rdy R_l_points hr (by decide) (by rfl) (pa_cons (pe_op op_cat (pe_lc (own := [("_law_one", 12)]) (by rfl) sc_l_is_inside_right.nd (pi_sq (pv 3)) (blkOk_by (own := [("_law_one", 12)]) (N := sc_l_is_inside_right_N) (sc := defScope s_l_is_inside_right) (by decide +kernel)) (fun _ _ _ _ _ => (pg_name (i := 12) sc_l_is_inside_right.nd rfl (Or.inl rfl))) (fun _ _ _ _ _ => pts_nil) (fun _ _ _ _ _ => (pe_tup (pa_cons (pe_ix (ix_tupK (K := K)) (pv 12) pe_int (fun _ _ => rfl)) (pa_cons (pe_ix (ix_tupK (K := K)) (pv 12) pe_int (fun _ _ => rfl)) pa_nil))))) (pe_lst (pa_cons (pv 4) pa_nil))) pa_nil)) (pe_lst (pa_cons (pe_op op_sub (pe_op op_pow pe_int pe_int) pe_int) pa_nil))))
      (pss_cons (ps_for PassesOwn.never rfl (pi_list (pe_lst (pa_cons pe_str (pa_cons pe_str pa_nil)))) (pg_name (i := 7) sc_l_is_inside_right.nd rfl (Or.inl rfl))
      (pss_cons (ps_par (i := 8) (j := 9) (by rfl) sc_l_is_inside_right.nd rfl rfl (by decide) rfl rfl (pa_cons (pe_makeK MA.mkr MA.ok (hr.mono (by decide)) (by rfl) MA.gl kbB pass0 (pa_cons pe_str pa_nil) (pk_cons (pv 7) pk_nil)) (pa_cons (pe_makeK MA.mkr MA.ok (hr.mono (by decide)) (by rfl) MA.gl kbA pass0 (pa_cons pe_str pa_nil) (pk_cons pe_bl (pk_cons pe_str (pk_cons (pv 7) pk_nil)))) pa_nil)) (by rfl))
      (pss_cons (ps_for PassesOwn.never rfl (pi_list (pv 6)) (pg_name (i := 10) sc_l_is_inside_right.nd rfl (Or.inl rfl))
      (pss_cons (ps_set (i := 11) sc_l_is_inside_right.nd rfl (Or.inl rfl) pe_str)
      (pss_cons (ps_for PassesOwn.never rfl (pi_sq (pv 3)) (pg_name (i := 12) sc_l_is_inside_right.nd rfl (Or.inl rfl))
      (pss_one (ps_if (pt_cmpR op_le (pe_ix (ix_tupK (K := K)) (pv 12) pe_int (fun _ _ => rfl)) (pv 10) (nomark _))
      (pss_one (ps_set (i := 11) sc_l_is_inside_right.nd rfl (Or.inl rfl) (pe_ix (ix_tupK (K := K)) (pv 12) pe_int (fun _ _ => rfl))))
      pss_nil)))
      (pss_cons (ps_set (i := 13) sc_l_is_inside_right.nd rfl (Or.inl rfl) (pe_callTy call_int1 (by rfl) B.b_int (by decide +kernel) (pa_cons (pe_cmpR op_eq (pv 11) pe_str (nomark _)) pa_nil)))
      (pss_cons (ps_if (PW.pt (pw_or (pt_cmpR op_ne (pe_callB (call_reprD gd hr) (by rfl) B.b_repr (by decide +kernel) (pa_cons (pe_meth (pv 8) AC.cl MW.mt MW.ok (hr.mono (by decide)) bdW hvW pass0 (pa_cons (pv 3) (pa_cons (pv 10) pa_nil))) pa_nil)) (pe_callB (call_reprD gd hr) (by rfl) B.b_repr (by decide +kernel) (pa_cons (pv 13) pa_nil)) (nomark _)) (pw_or1 (pt_cmpR op_ne (pe_meth (pv 8) AC.cl MW.mt MW.ok (hr.mono (by decide)) MW.bd .nil pass0 (pa_cons (pe_callTy call_tuple_of (by rfl) B.b_tuple (by decide +kernel) (pa_cons (pv 3) pa_nil)) (pa_cons (pv 10) (pa_cons (pv 4) pa_nil)))) (pv 13) (nomark _)))))
      (pss_one (ps_ret pe_bl))
      pss_nil)
      (pss_one (ps_if (pt_cmpR op_ne (pe_callB (call_reprD gd hr) (by rfl) B.b_repr (by decide +kernel) (pa_cons (pe_meth (pv 9) AC.cl MW.mt MW.ok (hr.mono (by decide)) MW.bd .nil pass0 (pa_cons (pv 3) (pa_cons (pv 10) (pa_cons (pv 4) pa_nil)))) pa_nil)) (pe_callB (call_reprD gd hr) (by rfl) B.b_repr (by decide +kernel) (pa_cons (pe_op op_mul (pv 13) (pe_callTy call_int1 (by rfl) B.b_int (by decide +kernel) (pa_cons (pe_rdy R_l_in hr (by decide) (by rfl) (pa_cons (pv 4) (pa_cons (pv 10) (pa_cons (pv 7) pa_nil)))) pa_nil))) pa_nil)) (nomark _))
      (pss_one (ps_ret pe_bl))
      pss_nil)))))))
      (pss_one (ps_if (PW.pt (pw_or (pt_cmpR op_ne (pe_meth (pv 8) AC.cl MW.mt MW.ok (hr.mono (by decide)) bdW hvW pass0 (pa_cons (pe_lst pa_nil) (pa_cons (pe_ix ix_list (pv 6) pe_int (fun _ _ => rfl)) pa_nil))) pe_int (nomark _)) (pw_or1 (pt_cmpR (op_neD hr.units) (pv 3) (pv 5) (nomark _)))))
      (pss_one (ps_ret pe_bl))
      pss_nil)))))
      (pss_one (ps_ret pe_bl))))))), ?_⟩
    refine ⟨_, rfl, (by show 3 ≤ sizeLine; decide), fun M nM => ?_⟩
    have sM := Same.new (o := .lst [.str "at", .str "at in", .str "at out"]) nM
    refine ⟨p, M, _, rfl, bg.same sM, SqL.hp upd_same, bagN_none bg nM, (by show 0 < 3; decide), (by show 3 ≤ 1000; decide), fun j v H1 hj bg1 bt1 => ?_⟩
    obtain ⟨w, rfl, hw⟩ := mem_ord hj
    have k1 : Kp p H H1 := (Kp.same sM).trans bt1.kp
    refine ⟨_, rfl, p, 9, rfl, bg1, by omega, by omega, fun near H2 n0 n1 bg2 bt2 => ⟨_, _, rfl, rfl, _, _, rfl, ?_⟩⟩
    refine ⟨_, rfl, _, rfl, _, rfl, p, 14, 1 + near, rfl, bg2, by omega, by omega, by omega, by omega, fun a0 ts0 es0 H3 na0 ha0 ev0 hes0 hl0 bg3 k3 => ?_⟩
    refine ⟨a0, w, ts0, es0, rfl, hw, SqL.hp ha0, ev0, hes0, by omega, fun a ts es H4 na ha ev hes srtd hl s4 => ?_⟩
    refine ⟨_, rfl, p, 8, rfl, bg3.same s4, by omega, by omega, fun t pr H5 ht hpr bg5 k5 => ⟨_, _, rfl, ?_⟩⟩
    have bg4 := bg3.same s4
    have nap : a ≠ p := bagN_refs bg4 ha
    have ha5 := k5 _ _ nap ha
    have ev5 := ev.kp k5 bg4.ne_tup
    have k05 : Kp p H H5 := (((k1.trans bt2.kp).trans k3).trans (Kp.same s4)).trans k5
    refine ⟨_, rfl, a, _, rfl, .inl (SqL.hp ha5), fun kp0 nk => ?_⟩
    have sk := Same.new (o := .lst (ts.map V.ref)) nk
    have hk : (upd H5 kp0 (.lst (ts.map V.ref))) kp0 = some (.lst (ts.map V.ref)) := upd_same
    have ha := sk _ _ ha5
    have ev := ev5.same sk
    have ht := sk _ _ ht
    have bgk := bg5.same sk
    have k0k : Kp p H (upd H5 kp0 (.lst (ts.map V.ref))) := k05.trans (Kp.same sk)
    generalize upd H5 kp0 (.lst (ts.map V.ref)) = HK at *
    have lts := ev.len
    have les : es.length ≤ 15 := by omega
    clear ev5 bg5 k05 bg4 ha5 k5 na s4 bg3 k3 bg2 bt2 bg1 bt1 sM
    refine ⟨_, rfl, a, _, rfl, .inl (SqL.hp ha), fun J wk D nD => ?_⟩
    refine lc_it wk (fun i H' => ∃ vs, Same HK H' ∧ H' D = some (.lst (vs.map V.ref)) ∧ Pd H' vs ((es.take i).map fun e => (e.2, e.2))) ⟨[], Same.new nD, upd_same, trivial⟩ (fun i H' _ h => sameK h.choose_spec.1) ?_ ?_
    · rintro i x H6 H7 hi ⟨vs, s6, hD, pv⟩ ⟨rfl, hx⟩
      obtain ⟨t1, ht1, rfl⟩ := map_get hx
      obtain ⟨e1, he1, et1⟩ := Ev.get ev ht1
      have et1 := s6 _ _ et1
      have lv := pv.len
      rw [List.length_map] at lv
      have := List.length_take_le' i es
      refine ⟨rfl, ?_⟩
      refine ⟨_, rfl, t1, _, 1, _, rfl, rfl, SqT.hp et1, rfl, _, rfl, t1, _, 1, _, rfl, rfl, SqT.hp et1, rfl, (by show 2 ≤ sizeLine; decide), fun T nT => ?_⟩
      obtain ⟨h1, h2⟩ := app_pair (x := (e1.2, e1.2)) hD pv nT
      refine ⟨_, (Same.new nT) _ _ hD, by rw [List.length_map]; exact small1000 (by omega), vs ++ [T], app_same s6 nD nT, h1, ?_⟩
      rw [take_more he1, List.map_append]
      exact h2
    rintro H6 ⟨vs, s6, hD, pv⟩
    rw [List.length_map, lts, List.take_length] at pv
    have lv := pv.len
    rw [List.length_map] at lv
    refine ⟨_, rfl, (by show 1 ≤ sizeLine; decide), fun M1 nM1 => ?_⟩
    have sM1 := Same.new (o := .lst [.ref t]) nM1
    refine ⟨D, M1, _, _, rfl, rfl, sM1 _ _ hD, upd_same, Nat.le_of_lt (small1000 (by rw [List.length_map, List.length_singleton]; omega)), fun C1 nC1 => ?_⟩
    have sC1 := Same.new (o := .lst (vs.map V.ref ++ [.ref t])) nC1
    have s7 := s6.trans (sM1.trans sC1)
    have pv7 := Pd.app (pv.same (sM1.trans sC1)) (us := [t]) (qs := [pr]) ⟨s7 _ _ ht, trivial⟩
    refine ⟨C1, vs ++ [t], _, rfl, SqL.hp (by rw [upd_same, List.map_append]; rfl), pv7, by rw [List.length_append, List.length_map, List.length_singleton]; omega, fun r ms H8 nr hr8 hne hml hmr s8 => ?_⟩
    have s08 := s7.trans s8
    refine ⟨_, _, rfl, rfl, ⟨by decide, by decide, by decide⟩, _, _, rfl, rfl, (by show 1 ≤ sizeLine; decide), fun M2 nM2 => ?_⟩
    have sM2 := Same.new (o := .lst [.int (10 ^ (31 : Int).toNat - 1)]) nM2
    refine ⟨r, M2, _, _, rfl, rfl, sM2 _ _ hr8, upd_same, Nat.le_of_lt (small1000 (by rw [List.length_map, List.length_singleton]; omega)), fun C2 nC2 => ?_⟩
    have sC2 := Same.new (o := .lst (ms.map V.int ++ [.int (10 ^ (31 : Int).toNat - 1)])) nC2
    have s9 := s08.trans (sM2.trans sC2)
    obtain ⟨qs, hqs⟩ : ∃ qs : List Int, ms ++ [10 ^ (31 : Int).toNat - 1] = qs := ⟨_, rfl⟩
    have hC2 : (upd (upd H8 M2 (.lst [.int (10 ^ (31 : Int).toNat - 1)])) C2 (.lst (ms.map V.int ++ [.int (10 ^ (31 : Int).toNat - 1)]))) C2 = some (.lst (qs.map V.int)) := by rw [upd_same, ← hqs, List.map_append]; rfl
    have hqr : ∀ m ∈ qs, -10000000000000000000000000000000 < m ∧ m < 10000000000000000000000000000000 := fun m hm => by
      rw [← hqs] at hm
      rcases List.mem_append.mp hm with hm | hm
      · exact hmr m hm
      · rw [List.mem_singleton.mp hm]; decide
    have hq0 : ∃ m, qs[0]? = some m := by
      rw [← hqs]
      cases ms with
      | nil => exact ⟨_, rfl⟩
      | cons m r => exact ⟨_, rfl⟩
    clear hqs hmr hne hml
    generalize upd (upd H8 M2 (.lst [.int (10 ^ (31 : Int).toNat - 1)])) C2 (.lst (ms.map V.int ++ [.int (10 ^ (31 : Int).toNat - 1)])) = H9 at *
    have ha := s9 _ _ ha
    have ev := ev.same s9
    have ht := s9 _ _ ht
    have hk := s9 _ _ hk
    have bgk := bgk.same s9
    have k0k := k0k.trans (Kp.same s9)
    clear s08 s7 pv7 pv sM2 sC2 s8 s6 s9
    refine ⟨(by show 2 ≤ sizeLine; decide), fun W nW => ⟨W, rfl, ⟨_, SqL.hp upd_same⟩, ?_⟩⟩
    have sW := Same.new (o := .lst [.str "half", .str "shut"]) nW
    refine for_list (K := K) (a := W) (xs := [.str "half", .str "shut"]) (fun i' σ H' => (∃ y7 y8 y9 y10 y11 y12 y13, σ = [some (.ref p), some (.str w), some (.int (1 + near)), some (.ref a), some (.ref t), some (.ref kp0), some (.ref C2), y7, y8, y9, y10, y11, y12, y13]) ∧ Same (upd H9 W (.lst [.str "half", .str "shut"])) H') ⟨⟨_, _, _, _, _, _, _, rfl⟩, Same.refl _⟩ (fun i' σ H' _ h => SqL.hp (h.2 _ _ upd_same)) ?_ ?_
    · rintro i' xx σ HA hxx ⟨⟨y7, y8, y9, y10, y11, y12, y13, rfl⟩, sA⟩
      obtain ⟨z, rfl⟩ := mode_of hxx
      have gA := sW.trans sA
      refine ⟨_, rfl, rfl, rfl, fun o dx no nd nod => ⟨o, dx, 6, false, "one", z, rfl, by decide, by decide +kernel, upd_same, fun HB kp ho => ⟨rfl, ?_⟩⟩⟩
      have sB := same_make no nd kp
      refine ⟨_, rfl, rfl, rfl, fun o2 dx2 no2 nd2 nod2 => ⟨o2, dx2, 6, true, "any", z, rfl, by decide, by decide +kernel, upd_same, fun HC kp2 ho2 => ⟨rfl, _, _, rfl, ?_⟩⟩⟩
      have sC := same_make no2 nd2 kp2
      have gC := gA.trans (sB.trans sC)
      have ho := sC _ _ ho
      refine ⟨_, rfl, C2, rfl, ⟨_, SqL.hp (gC _ _ hC2)⟩, ?_⟩
      refine for_list (K := K) (a := C2) (xs := qs.map V.int) (fun i σ H' => (∃ y10 y11 y12 y13, σ = [some (.ref p), some (.str w), some (.int (1 + near)), some (.ref a), some (.ref t), some (.ref kp0), some (.ref C2), some (endsV z), some (.ref o), some (.ref o2), y10, y11, y12, y13]) ∧ Same HC H') ⟨⟨_, _, _, _, rfl⟩, Same.refl _⟩ (fun i σ H' _ h => SqL.hp (h.2 _ _ (gC _ _ hC2))) ?_ ?_
      · rintro i x σ HD hx ⟨⟨y10, y11, y12, y13, rfl⟩, sD⟩
        obtain ⟨m, hm, rfl⟩ := map_get hx
        obtain ⟨m0, m1⟩ := hqr m (List.mem_of_getElem? hm)
        have gD := gC.trans sD
        have evD' := ev.same gD
        refine ⟨_, rfl, a, _, rfl, .inl (SqL.hp (gD _ _ ha)), fun J2 wk2 => ?_⟩
        refine for_it wk2 (fun i' σ H' => (∃ y12, σ = [some (.ref p), some (.str w), some (.int (1 + near)), some (.ref a), some (.ref t), some (.ref kp0), some (.ref C2), some (endsV z), some (.ref o), some (.ref o2), some (.int m), some (evW (lastE ((es.take i').filter fun e => decide (e.2 ≤ m)))), y12, y13]) ∧ H' = HD) ⟨⟨_, rfl⟩, rfl⟩ (fun i' σ H' _ h => by rw [h.2]; exact ⟨id, id⟩) ?_ ?_
        · rintro i' x σ HE HF hi ⟨⟨y12, rfl⟩, rfl⟩ ⟨rfl, hx⟩
          obtain ⟨t1, ht1, rfl⟩ := map_get hx
          obtain ⟨e1, he1, et1⟩ := Ev.get evD' ht1
          refine ⟨_, rfl, t1, _, 1, _, rfl, rfl, SqT.hp et1, rfl, _, rfl, _, _, rfl, rfl, _, rfl, ?_⟩
          rw [take_more he1, lastE_snoc]
          refine ite2 (fun c => ?_) (fun c => ?_)
          · rw [if_pos c]
            exact ⟨_, rfl, t1, _, 0, _, rfl, rfl, SqT.hp et1, rfl, ⟨_, rfl⟩, rfl⟩
          · rw [if_neg c]
            exact ⟨⟨_, rfl⟩, rfl⟩
        rintro σ HE ⟨⟨y12, rfl⟩, rfl⟩
        rw [List.length_map, lts, List.take_length]
        refine ⟨_, rfl, by cases lastE (es.filter fun e => decide (e.2 ≤ m)) <;> rfl, .inr ⟨_, rfl, ?_⟩⟩
        rw [evW_in]
        have hoD := sD _ _ ho
        have ho2D := sD _ _ ho2
        have u01 := insE_01 es m
        obtain ⟨w1, w2, w3, w4⟩ := reprI u01
        refine ⟨_, rfl, o, dx, _, rfl, hoD, mom_wanted 6 false "one" z, _, rfl, _, rfl, o, a, .non, ts, 6, false, "one", z, pr, m, insE es m, rfl, by decide, ⟨dx, hoD⟩, .inl (SqL.hp (gD _ _ ha)), .inl ⟨rfl, es, evD', hes, srtd, rfl⟩, m0, m1, .inl ⟨rfl, rfl, by decide +kernel⟩, fun HG sG => ?_⟩
        refine ⟨_, .int (insE es m), rfl, .int _, w1, w2, w3, w4, _, rfl, _, .int (insE es m), rfl, .int _, w1, w2, w3, w4, rfl, _, rfl, iteFe (by simp) ?_⟩
        have gG := gD.trans sG
        refine ⟨_, rfl, o, dx, _, rfl, sG _ _ hoD, mom_wanted 6 false "one" z, _, rfl, a, _, rfl, .inl ⟨SqL.hp (gG _ _ ha), fun T nT => ?_⟩⟩
        have sT := Same.new (o := .tup (ts.map V.ref)) nT
        have gT := gG.trans sT
        refine ⟨_, rfl, _, rfl, o, T, .ref t, ts, 6, false, "one", z, pr, m, insE es m, rfl, by decide, ⟨dx, sT _ _ (sG _ _ hoD)⟩, .inr (SqT.hp upd_same), .inl ⟨rfl, es, ev.same gT, hes, srtd, rfl⟩, m0, m1, .inr ⟨t, rfl, gT _ _ ht, hpr⟩, fun HI sI => ?_⟩
        refine ⟨_, rfl, rfl, _, rfl, iteFe (by simp [insE]) ?_⟩
        have gI := gT.trans sI
        have ho2I := sI _ _ (sT _ _ (sG _ _ ho2D))
        refine ⟨_, rfl, o2, dx2, _, rfl, ho2I, mom_wanted 6 true "any" z, _, rfl, _, rfl, _, rfl, o2, a, .ref t, ts, 6, true, "any", z, pr, m, insE es m, rfl, by decide, ⟨dx2, ho2I⟩, .inl (SqL.hp (gI _ _ ha)), .inl ⟨rfl, es, ev.same gI, hes, srtd, rfl⟩, m0, m1, .inr ⟨t, rfl, gI _ _ ht, hpr⟩, fun HJ sJ => ?_⟩
        have b01 : insE es m * hldN z [pr] m = 0 ∨ insE es m * hldN z [pr] m = 1 := by
          rw [hld1]
          rcases u01 with h | h <;> rw [h] <;> split <;> simp
        obtain ⟨x1, x2, x3, x4⟩ := reprI b01
        have gJ := gI.trans sJ
        refine ⟨_, .int (insE es m * hldN z [pr] m), rfl, .int _, x1, x2, x3, x4, _, rfl, _, rfl, _, rfl, _, rfl, t, pr, m, z, rfl, SqT.hp (gJ _ _ ht), Int.le_of_lt (winP_lt hpr), .inr ⟨_, rfl, _, _, rfl, rfl, .inr (by cases hldB z pr m <;> decide), ?_⟩⟩
        rw [hld1] at x1 x2 x3 x4
        refine ⟨_, .int (insE es m * (if hldB z pr m = true then 1 else 0)), rfl, .int _, x1, x2, x3, x4, rfl, _, rfl, iteFe (by rw [hld1]; simp) ?_⟩
        exact ⟨⟨_, _, _, _, rfl⟩, sD.trans (sG.trans (sT.trans (sI.trans sJ)))⟩
      · rintro σ HD ⟨⟨y10, y11, y12, y13, rfl⟩, sD⟩
        have gD := gC.trans sD
        have hoD := sD _ _ ho
        obtain ⟨m, hm⟩ := hq0
        obtain ⟨m0, m1⟩ := hqr m (List.mem_of_getElem? hm)
        refine ⟨_, rfl, o, dx, _, rfl, hoD, mom_wanted 6 false "one" z, Nat.zero_le _, fun L nL => ?_⟩
        have sL := Same.new (o := .lst []) nL
        have gL := gD.trans sL
        refine ⟨_, rfl, C2, _, 0, .int m, rfl, rfl, SqL.hp (gL _ _ hC2), atI_nat (j := 0) (by rw [List.getElem?_map, hm]; rfl), ?_⟩
        refine ⟨o, L, .non, [], 6, false, "one", z, pr, m, 0, rfl, by decide, ⟨dx, sL _ _ hoD⟩, .inl (SqL.hp upd_same), .inl ⟨rfl, [], trivial, (fun e h => nomatch h), .nil, rfl⟩, m0, m1, .inl ⟨rfl, rfl, by decide +kernel⟩, fun HG sG => ?_⟩
        have gG := gL.trans sG
        refine ⟨rfl, _, rfl, iteFe (by show (!decide (V.int 0 = V.int 0)) = false; decide +kernel) ?_⟩
        refine ⟨_, rfl, _, rfl, .list (es.map evD), .list (es.map evD), .lst (SqL.hp (gG _ _ ha)) (ev.same gG).dp, .lst (SqL.hp (gG _ _ hk)) (ev.same gG).dp, shapedEs _, shapedEs _, _, rfl, iteFe (eqv_evs es) ?_⟩
        exact ⟨⟨_, _, _, _, _, _, _, rfl⟩, sA.trans (sB.trans (sC.trans (sD.trans (sL.trans sG))))⟩
    · rintro σ HA ⟨⟨y7, y8, y9, y10, y11, y12, y13, rfl⟩, sA⟩
      have gA := sW.trans sA
      exact q HA (bgk.same gA) (k0k.trans (Kp.same gA))
end
/-! law -/
abbrev s_law : Stmt := topS 55
abbrev sc_law_N : List Str := ["_law_script", "_law_at", "_law_bag_here", "_law_spans_here", "_law_pair", "_law_kept", "_law_points_here", "_law_which_word", "_law_word", "_law_inside_only", "_law_wish", "_law_told", "_law_point", "_law_many", "_law_due", "_law_plain"]
theorem sc_law : FnScope sc_law_N ["_law_script"] (defScope s_law) := ⟨rfl, rfl, rfl, by decide +kernel, rfl, by decide +kernel, by decide +kernel⟩
def sp_law (K : PySem.W.Frag) : Sp := fun vs H Q _ => ∃ (a : Addr) (ns : List Int), vs = [.ref a] ∧ SqL K H a (ns.map V.int) ∧ ns.length ≤ 63 ∧ ∀ H', Q (.bl true) H'
section
variable {P : Program} {w : World} {K : PySem.W.Frag} {mg : Str → Option Value} {bh : Heap}
theorem ok_law {f : Addr} {fd : FuncData} {C : Addr} {f_init f_w : Addr} {fd_init fd_w : FuncData} {f_l_bag : Addr} {fd_l_bag : FuncData} {f_l_points : Addr} {fd_l_points : FuncData} {f_l_spans : Addr} {fd_l_spans : FuncData} {f_l_window : Addr} {fd_l_window : FuncData} {f_l_is_inside_right : Addr} {fd_l_is_inside_right : FuncData} {f_l_times : Addr} {fd_l_times : FuncData} {f_l_of : Addr} {fd_l_of : FuncData} {f_l_take : Addr} {fd_l_take : FuncData} {f_l_in : Addr} {fd_l_in : FuncData} (B : Blt mg) (T : Txt K mg) (AC : MomC K C) (MA : RdyMo P w K mg bh "Moments" C 2 ["self", "which", "within", "form", "ends"] [.bl false, .str "one", .str "half"] ["within", "form", "ends"] [.bl false, .str "one"] (sp_Moments_init K C) f_init fd_init) (MW : RdyMt P w K mg bh C "wanted" 6 ["self", "items", "moment", "window"] [.non] (sp_Moments_wanted K C) f_w fd_w) (R_l_bag : Rdy P w K mg bh "_law_bag" 1 ["_law_script", "_law_at"] (sp_l_bag K) f_l_bag fd_l_bag) (R_l_points : Rdy P w K mg bh "_law_points" 1 ["_law_rows"] (sp_l_points K) f_l_points fd_l_points) (R_l_spans : Rdy P w K mg bh "_law_spans" 5 ["_law_bag_here", "_law_most", "_law_near"] (sp_l_spans K) f_l_spans fd_l_spans) (R_l_window : Rdy P w K mg bh "_law_window" 3 ["_law_bag_here", "_law_near"] (sp_l_window K) f_l_window fd_l_window) (R_l_is_inside_right : RdyG P w K mg bh "_law_is_inside_right" 9 ["_law_bag_here"] (sp_l_is_inside_right K) f_l_is_inside_right fd_l_is_inside_right) (R_l_times : Rdy P w K mg bh "_law_times" 2 ["_law_wish_word", "_law_spans_here", "_law_point", "_law_word"] (sp_l_times K) f_l_times fd_l_times) (R_l_of : Rdy P w K mg bh "_law_of" 2 ["_law_bag_here", "_law_some"] (sp_l_of K) f_l_of fd_l_of) (R_l_take : Rdy P w K mg bh "_law_take" 1 ["_law_bag_here", "_law_many"] (sp_l_take K) f_l_take fd_l_take) (R_l_in : Rdy P w K mg bh "_law_in" 1 ["_law_pair", "_law_point", "_law_word"] (sp_l_in K) f_l_in fd_l_in) (F : Fun K "law" "law" s_law f fd) : FnG P w K mg bh 12 f fd ["_law_script"] (sp_law K) := by
  refine Fun.okG F sc_law (fun vs H Q E h => ?_) (fun cdv A outer s H vs Q E gd hr h => ?_)
  · obtain ⟨a, ns, rfl, _⟩ := h
    rfl
  · obtain ⟨a, ns, rfl, hS, hn, q⟩ := h
    obtain ⟨gA, kbA⟩ := MA.kb
    obtain ⟨gB, kbB⟩ := MA.kb1
    obtain ⟨dsA, hvA, bdA⟩ := MA.bd1
    obtain ⟨dsW, hvW, bdW⟩ := MW.bd1
    refine ⟨_, (pss_cons (ps_for PassesOwn.never rfl (pi_range1 (by rfl) B.b_range (pa_cons (pe_callB (call_max2 rfl) (by rfl) B.b_max (by decide +kernel) (pa_cons pe_int (pa_cons (pe_callB (call_min2 rfl) (by rfl) B.b_min (by decide +kernel) (pa_cons pe_int (pa_cons (pe_callB call_len_seq (by rfl) B.b_len (by decide +kernel) (pa_cons (pv 0) pa_nil)) pa_nil))) pa_nil))) pa_nil)) (pg_name (i := 1) sc_law.nd rfl (Or.inl rfl))
      (pss_cons (ps_set (i := 2) sc_law.nd rfl (Or.inl rfl) (pe_rdy R_l_bag hr (by decide) (by rfl) (pa_cons (pv 0) (pa_cons (pv 1) pa_nil))))
      (pss_cons (ps_asg (pe_tup (pa_cons (pe_rdy R_l_spans hr (by decide) (by rfl) (pa_cons (pv 2) (pa_cons pe_int (pa_cons pe_int pa_nil)))) (pa_cons (pe_rdy R_l_window hr (by decide) (by rfl) (pa_cons (pv 2) (pa_cons pe_int pa_nil))) pa_nil))) (pg_tup (by rfl) (pgs_cons (pg_name (i := 3) sc_law.nd rfl (Or.inr rfl)) (pgs_cons (pg_name (i := 4) sc_law.nd rfl (Or.inr rfl)) pgs_nil))))
      (pss_cons (ps_set (i := 5) sc_law.nd rfl (Or.inl rfl) (pe_callTy call_list_of (by rfl) B.b_list (by decide +kernel) (pa_cons (pv 3) pa_nil)))
      (pss_cons (ps_set (i := 6) sc_law.nd rfl (Or.inl rfl) (pe_rdy R_l_points hr (by decide) (by rfl) (pa_cons (pe_op op_cat (pv 3) (pe_lst (pa_cons (pv 4) pa_nil))) pa_nil)))
      (pss_cons (ps_for PassesOwn.never rfl (pi_list (pe_lst (pa_cons pe_str (pa_cons pe_str (pa_cons pe_str (pa_cons pe_str (pa_cons pe_str (pa_cons pe_str pa_nil)))))))) (pg_name (i := 7) sc_law.nd rfl (Or.inl rfl))
      (pss_cons (ps_par (i := 8) (j := 9) (by rfl) sc_law.nd rfl rfl (by decide) rfl rfl (pa_cons (pe_rdy R_l_of hr (by decide) (by rfl) (pa_cons (pv 2) (pa_cons (pe_lst (pa_cons pe_str (pa_cons pe_str pa_nil))) pa_nil))) (pa_cons (pe_cmpR op_eq (pe_rdy R_l_take hr (by decide) (by rfl) (pa_cons (pv 2) (pa_cons pe_int pa_nil))) pe_int (nomark _)) pa_nil)) (by rfl))
      (pss_cons (ps_set (i := 10) sc_law.nd rfl (Or.inr rfl) (pe_makeK MA.mkr MA.ok (hr.mono (by decide)) (by rfl) MA.gl kbA pass0 (pa_cons (pv 7) pa_nil) (pk_cons (pv 9) (pk_cons (pe_rdy R_l_of hr (by decide) (by rfl) (pa_cons (pv 2) (pa_cons (pe_lst (pa_cons pe_str (pa_cons pe_str (pa_cons pe_str pa_nil)))) pa_nil))) (pk_cons (pv 8) pk_nil)))))
      (pss_cons (ps_set (i := 11) sc_law.nd rfl (Or.inl rfl) (pe_lst pa_nil))
      (pss_cons (ps_for PassesOwn.never rfl (pi_sq (pv 6)) (pg_name (i := 12) sc_law.nd rfl (Or.inl rfl))
      (pss_cons (ps_set (i := 13) sc_law.nd rfl (Or.inl rfl) (pe_meth (pv 10) AC.cl MW.mt MW.ok (hr.mono (by decide)) MW.bd .nil pass0 (pa_cons (pv 3) (pa_cons (pv 12) (pa_cons (pv 4) pa_nil)))))
      (pss_cons (ps_set (i := 14) sc_law.nd rfl (Or.inl rfl) (pe_rdy R_l_times hr (by decide) (by rfl) (pa_cons (pv 7) (pa_cons (pv 3) (pa_cons (pv 12) (pa_cons (pv 8) pa_nil))))))
      (pss_mid (ps_if (PW.pt (pw_and (pt_truth (pv 9) (by intro _; rfl)) (pw_and1 (pt_not (pt_val (pe_rdy R_l_in hr (by decide) (by rfl) (pa_cons (pv 4) (pa_cons (pv 12) (pa_cons (pv 8) pa_nil)))))))))
      (pss_one (ps_set (i := 14) sc_law.nd rfl (Or.inl rfl) pe_int))
      pss_nil)
      (pss_cons (ps_if (PW.pt (pw_or (pt_not (pt_val (pe_callB call_isi (by rfl) B.b_isinstance (by decide +kernel) (pa_cons (pv 13) (pa_cons (pe_bltn (v := .ty "int") (by rfl) B.b_int (by decide +kernel) rfl) pa_nil))))) (pw_or (pt_val (pe_callB call_isi (by rfl) B.b_isinstance (by decide +kernel) (pa_cons (pv 13) (pa_cons (pe_bltn (v := .ty "bool") (by rfl) B.b_bool (by decide +kernel) rfl) pa_nil)))) (pw_or1 (pt_cmpR op_ne (pv 13) (pv 14) (nomark _))))))
      (pss_one (ps_ret pe_bl))
      pss_nil)
      (pss_one (ps_expr (pe_bm PySem.F.plainAttrs_list PySem.F.slot_list_append PySem.F.type_list_append mt_append (pv 11) (pa_cons (pv 13) pa_nil)))))))))
      (pss_cons (ps_if (PW.pt (pw_or (pt_cmpR (op_neD hr.units) (pe_lc (own := [("_law_point", 12)]) (by rfl) sc_law.nd (pi_sq (pv 6)) (blkOk_by (own := [("_law_point", 12)]) (N := sc_law_N) (sc := defScope s_law) (by decide +kernel)) (fun _ _ _ _ _ => (pg_name (i := 12) sc_law.nd rfl (Or.inl rfl))) (fun _ _ _ _ _ => pts_nil) (fun _ _ _ _ _ => (pe_meth (pv 10) AC.cl MW.mt MW.ok (hr.mono (by decide)) MW.bd .nil pass0 (pa_cons (pe_callTy (call_tuple_ofK (K := K)) (by rfl) B.b_tuple (by decide +kernel) (pa_cons (pv 3) pa_nil)) (pa_cons (pv 12) (pa_cons (pv 4) pa_nil)))))) (pv 11) (nomark _)) (pw_or1 (pt_cmpR (op_neD hr.units) (pv 3) (pv 5) (nomark _)))))
      (pss_one (ps_ret pe_bl))
      pss_nil)
      (pss_mid (ps_if (PW.pt (pw_and (pt_not (pt_truth (pv 9) (by intro _; rfl))) (pw_and1 (pt_cmpR (op_neD hr.units) (pe_lc (own := [("_law_point", 12)]) (by rfl) sc_law.nd (pi_sq (pv 6)) (blkOk_by (own := [("_law_point", 12)]) (N := sc_law_N) (sc := defScope s_law) (by decide +kernel)) (fun _ _ _ _ _ => (pg_name (i := 12) sc_law.nd rfl (Or.inl rfl))) (fun _ _ _ _ _ => pts_nil) (fun _ _ _ _ _ => (pe_meth (pv 10) AC.cl MW.mt MW.ok (hr.mono (by decide)) bdW hvW pass0 (pa_cons (pv 3) (pa_cons (pv 12) pa_nil))))) (pv 11) (nomark _)))))
      (pss_one (ps_ret pe_bl))
      pss_nil)
      (pss_one (ps_if (pt_cmpR op_ne (pe_meth (pv 10) AC.cl MW.mt MW.ok (hr.mono (by decide)) MW.bd .nil pass0 (pa_cons (pe_lst pa_nil) (pa_cons (pe_ix ix_list (pv 6) (pe_un un_neg pe_int) (fun _ _ => rfl)) (pa_cons (pv 4) pa_nil)))) (pe_callTy call_int1 (by rfl) B.b_int (by decide +kernel) (pa_cons (pe_and (pe_cmpR op_in_seq (pv 7) (pe_lst (pa_cons pe_str (pa_cons pe_str pa_nil))) (by rfl)) (pe_one (pe_or (pe_not (pv 9)) (pe_one (pe_rdy R_l_in hr (by decide) (by rfl) (pa_cons (pv 4) (pa_cons (pe_ix ix_list (pv 6) (pe_un un_neg pe_int) (fun _ _ => rfl)) (pa_cons (pv 8) pa_nil)))))))) pa_nil)) (nomark _))
      (pss_one (ps_ret pe_bl))
      pss_nil)))))))))
      (pss_cons (ps_if (pt_not (pt_val (pe_rdyG R_l_is_inside_right gd hr (by decide) (by rfl) (pa_cons (pv 2) pa_nil))))
      (pss_one (ps_ret pe_bl))
      pss_nil)
      (pss_cons (ps_set (i := 15) sc_law.nd rfl (Or.inl rfl) (pe_make MA.mkr MA.ok (hr.mono (by decide)) (by rfl) MA.gl bdA hvA pass0 (pa_cons pe_str pa_nil)))
      (pss_cons (ps_if (pt_cmpR (op_neD hr.units) (pe_tup (pa_cons (pe_fld (pv 15) rfl) (pa_cons (pe_fld (pv 15) rfl) (pa_cons (pe_fld (pv 15) rfl) (pa_cons (pe_fld (pv 15) rfl) pa_nil))))) (pe_tup (pa_cons (pe_half T.ends (by rfl)) (pa_cons pe_str (pa_cons pe_bl (pa_cons pe_str pa_nil))))) (nomark _))
      (pss_one (ps_ret pe_bl))
      pss_nil)
      (pss_one (ps_if (pt_cmpR op_ne (pe_meth (pv 15) AC.cl MW.mt MW.ok (hr.mono (by decide)) bdW hvW pass0 (pa_cons (pv 3) (pa_cons (pe_ix ix_list (pv 6) pe_int (fun _ _ => rfl)) pa_nil))) (pe_rdy R_l_times hr (by decide) (by rfl) (pa_cons pe_str (pa_cons (pv 3) (pa_cons (pe_ix ix_list (pv 6) pe_int (fun _ _ => rfl)) (pa_cons pe_str pa_nil))))) (nomark _))
      (pss_one (ps_ret pe_bl))
      pss_nil)))))))))))
      (pss_one (ps_ret pe_bl))), ?_⟩
    refine ⟨_, rfl, a, _, rfl, .inl hS, _, _, rfl, _, _, rfl, ?_⟩
    rw [List.length_map]
    obtain ⟨N, eN⟩ : ∃ N : Int, (if (if (ns.length : Int) < 5 then (ns.length : Int) else 5) > 1 then (if (ns.length : Int) < 5 then (ns.length : Int) else 5) else 1) = N := ⟨_, rfl⟩
    have hN : 1 ≤ N ∧ N ≤ 5 := by
      subst eN
      (repeat' split) <;> omega
    refine ⟨N, by rw [← eN], by omega, by omega, ?_⟩
    refine for_range (lo := 0) (n := N.toNat) (fun i σ H' => (∃ y1 y2 y3 y4 y5 y6 y7 y8 y9 y10 y11 y12 y13 y14 y15, σ = [some (.ref a), y1, y2, y3, y4, y5, y6, y7, y8, y9, y10, y11, y12, y13, y14, y15]) ∧ Same H H') ⟨⟨_, _, _, _, _, _, _, _, _, _, _, _, _, _, _, rfl⟩, Same.refl H⟩ ?_ ?_
    · rintro i σ H5 hi ⟨⟨y1, y2, y3, y4, y5, y6, y7, y8, y9, y10, y11, y12, y13, y14, y15, rfl⟩, s5⟩
      refine ⟨_, rfl, _, rfl, a, ns, _, rfl, s5.seq hS, hn, by omega, by omega, fun p H6 np bg6 s6 => ?_⟩
      refine ⟨_, rfl, p, 10, 7, rfl, bg6, by omega, by omega, by omega, by omega, fun s ts ps H7 nS hs pd hst hl bg7 k7 => ?_⟩
      refine ⟨_, rfl, p, 7, rfl, bg7, by omega, by omega, fun t w H8 ht hw bg8 k8 => ?_⟩
      refine ⟨(by show 2 ≤ sizeLine; decide), fun T nT => ⟨T, _, rfl, SqT.hp upd_same, rfl, _, _, rfl, _, _, rfl, rfl, ?_⟩⟩
      have sT := Same.new (o := .tup [.ref s, .ref t]) nT
      have nsp : s ≠ p := bagN_refs bg7 hs
      have hs := sT _ _ (k8 _ _ nsp hs)
      have pd := (pd.kp k8 bg7.ne_tup).same sT
      have ht := sT _ _ ht
      have bg := bg8.same sT
      have kT : Kp p H6 (upd H8 T (.tup [.ref s, .ref t])) := (k7.trans k8).trans (Kp.same sT)
      generalize upd H8 T (.tup [.ref s, .ref t]) = H9 at *
      clear bg8 k8 bg7 k7 nS bg6 sT nT
      have lts := pd.len
      refine ⟨_, rfl, s, _, rfl, .inl (SqL.hp hs), fun k nk => ?_⟩
      have sk := Same.new (o := .lst (ts.map V.ref)) nk
      have hk : (upd H9 k (.lst (ts.map V.ref))) k = some (.lst (ts.map V.ref)) := upd_same
      refine ⟨_, rfl, _, rfl, (by show 1 ≤ sizeLine; decide), fun M nM => ?_⟩
      have sM := Same.new (o := .lst [.ref t]) nM
      refine ⟨s, M, _, _, rfl, rfl, sM _ _ (sk _ _ hs), upd_same, Nat.le_of_lt (small1000 (by rw [List.length_map, List.length_singleton]; omega)), fun C2 nC2 => ?_⟩
      have sC2 := Same.new (o := .lst (ts.map V.ref ++ [.ref t])) nC2
      have s9 := sk.trans (sM.trans sC2)
      have hk := (sM.trans sC2) _ _ hk
      have hC2 : (upd (upd (upd H9 k (.lst (ts.map V.ref))) M (.lst [.ref t])) C2 (.lst (ts.map V.ref ++ [.ref t]))) C2 = some (.lst ((ts ++ [t]).map V.ref)) := by rw [upd_same, List.map_append]; rfl
      generalize upd (upd (upd H9 k (.lst (ts.map V.ref))) M (.lst [.ref t])) C2 (.lst (ts.map V.ref ++ [.ref t])) = H10 at *
      have pdw : Pd H10 (ts ++ [t]) (ps ++ [w]) := Pd.app (pd.same s9) ⟨s9 _ _ ht, trivial⟩
      refine ⟨C2, ts ++ [t], ps ++ [w], rfl, SqL.hp hC2, pdw, by rw [List.length_append, List.length_singleton]; omega, fun r ms H11 nr hr hne hml hmr s11 => ?_⟩
      have nrp : r ≠ p := bagN_none (bg.same s9) nr
      have s10 := s9.trans s11
      have hs := s10 _ _ hs
      have hk := s11 _ _ hk
      have pd := pd.same s10
      have ht := s10 _ _ ht
      have bg := bg.same s10
      have kT : Kp p H6 H11 := kT.trans (Kp.same s10)
      have nkp : k ≠ p := bagN_refs bg hk
      have ntp : t ≠ p := bagN_tup bg ht
      clear pdw hC2 s9 s10 s11 sC2 nC2 sM nM sk nk nr
      have wle : w.1 ≤ w.2 := Int.le_of_lt (winP_lt hw)
      have l1 : ps.length ≤ 200 := by omega
      refine ⟨(by show 6 ≤ sizeLine; decide), fun V6 nV => ⟨V6, rfl, ⟨_, SqL.hp upd_same⟩, ?_⟩⟩
      have sV := Same.new (o := .lst [.str "some", .str "none", .str "all", .str "one", .str "two", .str "each"]) nV
      have hs := sV _ _ hs
      have hk := sV _ _ hk
      have hr := sV _ _ hr
      have pd := pd.same sV
      have ht := sV _ _ ht
      have bg := bg.same sV
      have nVp : V6 ≠ p := bagN_ne bg upd_same fun b0 b1 z => by cases z
      have hV : (upd H11 V6 (.lst [.str "some", .str "none", .str "all", .str "one", .str "two", .str "each"])) V6 = _ := upd_same
      have kT : Kp p H6 (upd H11 V6 (.lst [.str "some", .str "none", .str "all", .str "one", .str "two", .str "each"])) := kT.trans (Kp.same sV)
      generalize upd H11 V6 (.lst [.str "some", .str "none", .str "all", .str "one", .str "two", .str "each"]) = HV at *
      refine for_list (K := K) (a := V6) (xs := [.str "some", .str "none", .str "all", .str "one", .str "two", .str "each"]) (fun i' σ H' => (∃ y7 y8 y9 y10 y11 y12 y13 y14, σ = [some (.ref a), some (.int (0 + (i : Int))), some (.ref p), some (.ref s), some (.ref t), some (.ref k), some (.ref r), y7, y8, y9, y10, y11, y12, y13, y14, y15]) ∧ BagN H' p ∧ Kp p HV H') ⟨⟨_, _, _, _, _, _, _, _, rfl⟩, bg, Kp.refl⟩ (fun i' σ H' _ h => SqL.hp (h.2.2 _ _ nVp hV)) ?_ ?_
      · rintro j xx σ HA hxx ⟨⟨y7, y8, y9, y10, y11, y12, y13, y14, rfl⟩, bgA, kA⟩
        obtain ⟨rfl, j6⟩ := mem_wnd hxx
        -- word, inside_only
        refine ⟨_, rfl, (by show 2 ≤ sizeLine; decide), fun M1 nM1 => ?_⟩
        have sM1 := Same.new (o := .lst [.str "half", .str "shut"]) nM1
        refine ⟨p, M1, _, rfl, bgA.same sM1, SqL.hp upd_same, bagN_none bgA nM1, (by show 0 < 2; decide), (by show 2 ≤ 1000; decide), fun j1 x1 HB hx1 bgB btB => ?_⟩
        obtain ⟨z, rfl⟩ := mode_of hx1
        have kB := kA.trans ((Kp.same sM1).trans btB.kp)
        refine ⟨_, rfl, p, 2, rfl, bgB, by omega, by omega, fun u HC u0 u1 bgC btC => ⟨rfl, _, _, rfl, ?_⟩⟩
        have kC := kB.trans btC.kp
        generalize decide (V.int u = V.int 1) = wi
        -- wish
        refine ⟨_, rfl, _, rfl, _, rfl, (by show 3 ≤ sizeLine; decide), fun M2 nM2 => ?_⟩
        have sM2 := Same.new (o := .lst [.str "one", .str "full", .str "any"]) nM2
        refine ⟨p, M2, _, rfl, bgC.same sM2, SqL.hp upd_same, bagN_none bgC nM2, (by show 0 < 3; decide), (by show 3 ≤ 1000; decide), fun j2 x2 HD hx2 bgD btD => ?_⟩
        obtain ⟨fm, rfl, hfm, hcut⟩ := mem_fm hx2
        have kD := kC.trans ((Kp.same sM2).trans btD.kp)
        refine ⟨_, rfl, rfl, rfl, fun o dx no nd nod => ⟨o, dx, j, wi, fm, z, rfl, by omega, hfm, upd_same, fun HE kp ho => ⟨rfl, ?_⟩⟩⟩
        have sE := same_make no nd kp
        have kE := kD.trans (Kp.same sE)
        have bgE := bgD.same sE
        have hs := kE _ _ nsp hs
        have hk := kE _ _ nkp hk
        have hr := kE _ _ nrp hr
        have pd := pd.kp kE bg.ne_tup
        have ht := kE _ _ ntp ht
        clear bgB btB kB bgC btC kC sM2 nM2 bgD btD kD sE sM1 nM1 hx1 hx2 no nd nod kp u0 u1
        -- told
        refine ⟨Nat.zero_le _, fun L nL => ?_⟩
        refine ⟨_, rfl, r, _, rfl, .inl (SqL.hp ((Same.new (o := .lst []) nL) _ _ hr)), fun J wk => ?_⟩
        refine for_it wk (fun i' σ H' => (∃ y12 y13 y14, σ = [some (.ref a), some (.int (0 + (i : Int))), some (.ref p), some (.ref s), some (.ref t), some (.ref k), some (.ref r), some (wndV j), some (endsV z), some (.bl wi), some (.ref o), some (.ref L), y12, y13, y14, y15]) ∧ H' L = some (.lst (((ms.take i').map (wntI wi z j ps w)).map V.int)) ∧ Same HE H') ⟨⟨y12, y13, y14, rfl⟩, upd_same, Same.new nL⟩ ?_ ?_ ?_
        · exact fun i' σ H' _ h => sqK_kp (fun c u n e => h.2.2 _ _ (by rw [upd_ne n] at e; exact e)) (ne_of_none hr nL)
        · rintro i' x σ HF HG hi' ⟨⟨y12, y13, y14, rfl⟩, hL, sF⟩ ⟨rfl, hx⟩
          obtain ⟨m, hm, rfl⟩ := map_get hx
          obtain ⟨m0, m1⟩ := hmr m (List.mem_of_getElem? hm)
          have oG := sF _ _ ho
          refine ⟨_, rfl, o, dx, _, rfl, oG, mom_wanted j wi fm z, _, rfl, _, rfl, _, rfl, o, s, .ref t, ts, j, wi, fm, z, w, m, wtdT j z ps m, rfl, by omega, ⟨dx, oG⟩, .inl (SqL.hp (sF _ _ hs)), .inr ⟨j6, ps, pd.same sF, hst, by omega, rfl⟩, m0, m1, .inr ⟨t, rfl, sF _ _ ht, hw⟩, fun HH sH => ?_⟩
          have sFH := sF.trans sH
          refine ⟨_, rfl, _, rfl, _, rfl, _, rfl, j, s, ts, ps, m, z, rfl, j6, SqL.hp (sFH _ _ hs), pd.same sFH, hst, l1, fun HI sI => ?_⟩
          have sFI := sFH.trans sI
          have hL := sI _ _ (sH _ _ hL)
          refine ⟨fun σ H' => (∃ d : Int, σ = [some (.ref a), some (.int (0 + (i : Int))), some (.ref p), some (.ref s), some (.ref t), some (.ref k), some (.ref r), some (wndV j), some (endsV z), some (.bl wi), some (.ref o), some (.ref L), some (.int m), some (.int (wntI wi z j ps w m)), some (.int d), y15] ∧ d = wntI wi z j ps w m) ∧ H' = HI, ?_, ?_⟩
          · refine ⟨_, rfl, wi, rfl, ?_⟩
            refine ite2 (fun c => ?_) (fun c => iteF ⟨⟨_, rfl, ?_⟩, rfl⟩)
            · refine ⟨_, rfl, _, rfl, _, rfl, t, w, m, z, rfl, SqT.hp (sFI _ _ ht), wle, _, rfl, ?_⟩
              refine ite2 (fun c2 => ⟨⟨_, rfl, ?_⟩, rfl⟩) (fun c2 => ⟨⟨_, rfl, ?_⟩, rfl⟩)
              · rw [wnt_due, c, c2]; rfl
              · rw [wnt_due, c, Bool.eq_false_iff.mpr c2]; rfl
            · rw [wnt_due, Bool.eq_false_iff.mpr c]; rfl
          rintro σ HJ ⟨⟨d, rfl, rfl⟩, rfl⟩
          refine ⟨_, rfl, _, _, _, _, _, rfl, .ty _, dpTy (.int _), kit_ty (kitInt (.int _)), _, rfl, iteFe rfl ?_⟩
          refine ⟨_, rfl, _, _, _, _, _, rfl, .ty _, dpTy (.int _), kit_ty (kitBool (.int _)), _, rfl, iteFe rfl ?_⟩
          refine ⟨_, rfl, _, rfl, rfl, _, rfl, iteFe (by simp) ?_⟩
          refine ⟨_, rfl, .inl ⟨rfl, _, SqL.hp hL⟩, _, rfl, L, _, _, rfl, rfl, hL, by rw [List.length_map, List.length_map]; exact small1000 (Nat.le_trans (List.length_take_le' ..) (by omega)), ?_⟩
          exact ⟨⟨_, _, _, rfl⟩, by rw [upd_same, take_more hm, List.map_append, List.map_append]; rfl, fun c u e => by rw [upd_ne (ne_of_none e nL)]; exact sFI _ _ e⟩
        rintro σ HF ⟨⟨y12, y13, y14, rfl⟩, hL, sF⟩
        rw [List.length_map, List.take_length] at hL
        clear wk
        have ho := sF _ _ ho
        have hs := sF _ _ hs
        have hk := sF _ _ hk
        have hr := sF _ _ hr
        have pd := pd.same sF
        have ht := sF _ _ ht
        have bgF := bgE.same sF
        have kF := kE.trans (Kp.same sF)
        clear bgE kE sF nL
        -- the first if
        refine ⟨_, rfl, r, _, rfl, .inl (SqL.hp hr), fun J2 wk2 D nD => ?_⟩
        refine lc_it wk2 (fun i' H' => Same HF H' ∧ H' D = some (.lst (((ms.take i').map (wntI wi z j ps w)).map V.int))) ⟨Same.new nD, upd_same⟩ (fun i' H' _ h => sameK h.1) ?_ ?_
        · rintro i' x HG HH hi' ⟨sG, hD⟩ ⟨rfl, hx⟩
          obtain ⟨m, hm, rfl⟩ := map_get hx
          obtain ⟨m0, m1⟩ := hmr m (List.mem_of_getElem? hm)
          refine ⟨rfl, ?_⟩
          refine ⟨_, rfl, o, dx, _, rfl, sG _ _ ho, mom_wanted j wi fm z, _, rfl, s, _, rfl, .inl ⟨SqL.hp (sG _ _ hs), fun T2 nT2 => ?_⟩⟩
          have sT2 := Same.new (o := .tup (ts.map V.ref)) nT2
          have sT := sG.trans sT2
          refine ⟨_, rfl, _, rfl, o, T2, .ref t, ts, j, wi, fm, z, w, m, wtdT j z ps m, rfl, by omega, ⟨dx, sT _ _ ho⟩, .inr (SqT.hp upd_same), .inr ⟨j6, ps, pd.same sT, hst, by omega, rfl⟩, m0, m1, .inr ⟨t, rfl, sT _ _ ht, hw⟩, fun HI sI => ?_⟩
          have sGI := sG.trans (sT2.trans sI)
          have hDI := sI _ _ (sT2 _ _ hD)
          refine ⟨_, hDI, by rw [List.length_map, List.length_map]; exact small1000 (Nat.le_trans (List.length_take_le' ..) (by omega)), fun c u e => by rw [upd_ne (ne_of_none e nD)]; exact sGI _ _ e, ?_⟩
          rw [upd_same, take_more hm, List.map_append, List.map_append]; rfl
        rintro HG ⟨sG, hD⟩
        rw [List.length_map, List.take_length] at hD
        have hLG := sG _ _ hL
        refine ⟨_, rfl, .list ((ms.map (wntI wi z j ps w)).map PyData.int), .list ((ms.map (wntI wi z j ps w)).map PyData.int), .lst (SqL.hp hD) (dpIs _), .lst (SqL.hp hLG) (dpIs _), shapedIs _, shapedIs _, _, rfl, iteFe (eqv_is _) ?_⟩
        refine ⟨_, rfl, _, rfl, .list (ps.map prD), .list (ps.map prD), .lst (SqL.hp (sG _ _ hs)) (pd.same sG).dp, .lst (SqL.hp (sG _ _ hk)) (pd.same sG).dp, shapedPs _, shapedPs _, _, rfl, iteFe (eqv_self ps) ?_⟩
        clear wk2
        -- the second if
        refine ⟨fun σ H' => σ = [some (.ref a), some (.int (0 + (i : Int))), some (.ref p), some (.ref s), some (.ref t), some (.ref k), some (.ref r), some (wndV j), some (endsV z), some (.bl wi), some (.ref o), some (.ref L), y12, y13, y14, y15] ∧ Same HG H', ?_, ?_⟩
        · refine ⟨_, rfl, wi, rfl, ?_⟩
          refine ite2 (fun c => ?_) (fun c => iteF ⟨rfl, Same.refl _⟩)
          have c : wi = false := by simpa using c
          subst c
          refine ⟨_, rfl, r, _, rfl, .inl (SqL.hp (sG _ _ hr)), fun J2 wk2 D2 nD2 => ?_⟩
          refine lc_it wk2 (fun i' H' => Same HG H' ∧ H' D2 = some (.lst (((ms.take i').map (wntI false z j ps w)).map V.int))) ⟨Same.new nD2, upd_same⟩ (fun i' H' _ h => sameK h.1) ?_ ?_
          · rintro i' x HH HH2 hi' ⟨sH, hD⟩ ⟨rfl, hx⟩
            obtain ⟨m, hm, rfl⟩ := map_get hx
            obtain ⟨m0, m1⟩ := hmr m (List.mem_of_getElem? hm)
            have sGH := sG.trans sH
            refine ⟨rfl, ?_⟩
            refine ⟨_, rfl, o, dx, _, rfl, sGH _ _ ho, mom_wanted j false fm z, _, rfl, _, rfl, o, s, .non, ts, j, false, fm, z, w, m, wtdT j z ps m, rfl, by omega, ⟨dx, sGH _ _ ho⟩, .inl (SqL.hp (sGH _ _ hs)), .inr ⟨j6, ps, pd.same sGH, hst, by omega, rfl⟩, m0, m1, .inl ⟨rfl, rfl, hcut⟩, fun HI sI => ?_⟩
            have sHI := sH.trans sI
            have hDI := sI _ _ hD
            refine ⟨_, hDI, by rw [List.length_map, List.length_map]; exact small1000 (Nat.le_trans (List.length_take_le' ..) (by omega)), fun c u e => by rw [upd_ne (ne_of_none e nD2)]; exact sHI _ _ e, ?_⟩
            rw [upd_same, take_more hm, List.map_append, List.map_append]; rfl
          rintro HH ⟨sH, hD2⟩
          rw [List.length_map, List.take_length] at hD2
          exact ⟨_, rfl, .list ((ms.map (wntI false z j ps w)).map PyData.int), .list ((ms.map (wntI false z j ps w)).map PyData.int), .lst (SqL.hp hD2) (dpIs _), .lst (SqL.hp (sH _ _ hLG)) (dpIs _), shapedIs _, shapedIs _, _, rfl, iteFe (eqv_is _) ⟨rfl, sH⟩⟩
        rintro σ HH ⟨rfl, sH⟩
        have sGH := sG.trans sH
        -- the third if
        obtain ⟨m, hm, hend⟩ := atI_endI hne
        obtain ⟨m0, m1⟩ := hmr m hm
        refine ⟨_, rfl, o, dx, _, rfl, sGH _ _ ho, mom_wanted j wi fm z, Nat.zero_le _, fun L2 nL2 => ?_⟩
        have sL2 := Same.new (o := .lst []) nL2
        have sHL := sGH.trans sL2
        refine ⟨_, rfl, _, rfl, r, _, _, .int m, rfl, rfl, SqL.hp (sHL _ _ hr), hend, _, rfl, ?_⟩
        refine ⟨o, L2, .ref t, [], j, wi, fm, z, w, m, wtdT j z [] m, rfl, by omega, ⟨dx, sHL _ _ ho⟩, .inl (SqL.hp upd_same), .inr ⟨j6, [], trivial, (fun v hv => nomatch hv), by decide, rfl⟩, m0, m1, .inr ⟨t, rfl, sHL _ _ ht, hw⟩, fun HI sI => ?_⟩
        have sHI := sHL.trans sI
        refine ⟨_, rfl, (by show 2 ≤ sizeLine; decide), fun L3 nL3 => ⟨L3, _, rfl, .inl (SqL.hp upd_same), rfl, rfl, _, rfl, ?_⟩⟩
        have sL3 := Same.new (o := .lst [.str "none", .str "all"]) nL3
        have sHJ := sHI.trans sL3
        generalize upd HI L3 (.lst [.str "none", .str "all"]) = HJ at *
        have fin : (∃ v7 v8 v9 v10 v11 v12 v13 v14, [some (.ref a), some (.int (0 + (i : Int))), some (.ref p), some (.ref s), some (.ref t), some (.ref k), some (.ref r), some (wndV j), some (endsV z), some (.bl wi), some (.ref o), some (.ref L), y12, y13, y14, y15] = [some (.ref a), some (.int (0 + (i : Int))), some (.ref p), some (.ref s), some (.ref t), some (.ref k), some (.ref r), v7, v8, v9, v10, v11, v12, v13, v14, y15]) ∧ BagN HJ p ∧ Kp p HV HJ := ⟨⟨_, _, _, _, _, _, _, _, rfl⟩, bgF.same sHJ, kF.trans (Kp.same sHJ)⟩
        refine ite2 (fun c => ?_) (fun c => ?_)
        · have c : inV (wndV j) [.str "none", .str "all"] = true := c
          refine ⟨_, rfl, wi, rfl, _, rfl, ?_⟩
          refine ite2 (fun c2 => ?_) (fun c2 => ?_)
          · refine .inr ⟨_, rfl, rfl, _, rfl, iteFe (by show (!decide (V.int (wntI wi z j [] w m) = V.int 1)) = false; rw [wnt_nil j6, c, c2]; simp) fin⟩
          · refine ⟨_, rfl, _, rfl, _, rfl, r, _, _, .int m, rfl, rfl, SqL.hp (sHJ _ _ hr), hend, _, rfl, t, w, m, z, rfl, SqT.hp (sHJ _ _ ht), wle, ?_⟩
            refine .inr ⟨_, rfl, rfl, _, rfl, iteFe (by show (!decide (V.int (wntI wi z j [] w m) = V.int (if hldB z w m = true then 1 else 0))) = false; rw [wnt_nil j6, c, Bool.eq_false_iff.mpr c2]; simp) fin⟩
        · have c : ¬ inV (wndV j) [.str "none", .str "all"] = true := c
          refine .inr ⟨_, rfl, rfl, _, rfl, iteFe (by show (!decide (V.int (wntI wi z j [] w m) = V.int 0)) = false; rw [wnt_nil j6, Bool.eq_false_iff.mpr c]; simp) fin⟩
      · rintro σ HA ⟨⟨y7, y8, y9, y10, y11, y12, y13, y14, rfl⟩, bgA, kA⟩
        have kA' := kT.trans kA
        have hs := kA _ _ nsp hs
        have hr := kA _ _ nrp hr
        have pd := pd.kp kA bg.ne_tup
        have ht := kA _ _ ntp ht
        refine ⟨_, rfl, p, rfl, bgA, fun HB bgB kB => ⟨_, rfl, iteFe rfl ?_⟩⟩
        have kB' := kA'.trans kB
        have hs := kB _ _ nsp hs
        have hr := kB _ _ nrp hr
        have pd := pd.kp kB bgA.ne_tup
        have ht := kB _ _ ntp ht
        refine fun o dx no nd nod => ⟨o, dx, 5, false, "one", false, rfl, by decide, by decide +kernel, upd_same, fun HC kp ho => ⟨rfl, ?_⟩⟩
        have sC := same_make no nd kp
        have hs := sC _ _ hs
        have hr := sC _ _ hr
        have pd := pd.same sC
        have ht := sC _ _ ht
        have kC := kB'.trans (Kp.same sC)
        refine ⟨_, rfl, o, C, dx, _, _, rfl, ho, AC.cl, AC.nE, mom_ends 5 false "one" false, _, rfl, o, C, dx, _, _, rfl, ho, AC.cl, AC.nF, mom_form 5 false "one" false, _, rfl, o, C, dx, _, _, rfl, ho, AC.cl, AC.nW, mom_within 5 false "one" false, _, rfl, o, C, dx, _, _, rfl, ho, AC.cl, AC.nH, mom_which 5 false "one" false, (by show 4 ≤ sizeLine; decide), fun T1 nT1 => ?_⟩
        have sT1 := Same.new (o := .tup [endsV false, .str "one", .bl false, wndV 5]) nT1
        refine ⟨(by show 4 ≤ sizeLine; decide), fun T2 nT2 => ?_⟩
        have sT2 := Same.new (o := .tup [.str "half", .str "one", .bl false, .str "each"]) nT2
        have g1 := sT1.trans sT2
        refine ⟨.tuple [.str "half", .str "one", .bool false, .str "each"], .tuple [.str "half", .str "one", .bool false, .str "each"], .tup (SqT.hp (sT2 _ _ upd_same)) (.cons (.str _) (.cons (.str _) (.cons (.bl _) (.cons (.str _) .nil)))), .tup (SqT.hp upd_same) (.cons (.str _) (.cons (.str _) (.cons (.bl _) (.cons (.str _) .nil)))), by decide +kernel, by decide +kernel, _, rfl, iteFe (by decide +kernel) ?_⟩
        obtain ⟨m, hm⟩ : ∃ m, ms[0]? = some m := by
          cases ms with
          | nil => exact absurd rfl hne
          | cons m _ => exact ⟨m, rfl⟩
        obtain ⟨m0, m1⟩ := hmr m (List.mem_of_getElem? hm)
        have h0 : atI (ms.map V.int) (0 : Nat) = some (.int m) := atI_nat (j := 0) (by rw [List.getElem?_map, hm]; rfl)
        refine ⟨_, rfl, o, dx, _, rfl, g1 _ _ ho, mom_wanted 5 false "one" false, _, rfl, _, rfl, r, _, 0, .int m, rfl, rfl, SqL.hp (g1 _ _ hr), h0, ?_⟩
        refine ⟨o, s, .non, ts, 5, false, "one", false, w, m, wtdT 5 false ps m, rfl, by decide, ⟨dx, g1 _ _ ho⟩, .inl (SqL.hp (g1 _ _ hs)), .inr ⟨by decide, ps, pd.same g1, hst, by omega, rfl⟩, m0, m1, .inl ⟨rfl, rfl, by decide +kernel⟩, fun HD sD => ?_⟩
        have g2 := g1.trans sD
        refine ⟨_, rfl, _, rfl, r, _, 0, .int m, rfl, rfl, SqL.hp (g2 _ _ hr), h0, ?_⟩
        refine ⟨5, s, ts, ps, m, false, rfl, by decide, SqL.hp (g2 _ _ hs), pd.same g2, hst, l1, fun HF sF => ?_⟩
        refine ⟨rfl, _, rfl, iteFe (by simp) ?_⟩
        exact ⟨⟨_, _, _, _, _, _, _, _, _, _, _, _, _, _, _, rfl⟩, s5.trans (same_kp np s6 (kC.trans (Kp.same (g2.trans sF))))⟩
    · rintro σ H' ⟨⟨y1, y2, y3, y4, y5, y6, y7, y8, y9, y10, y11, y12, y13, y14, y15, rfl⟩, s5⟩
      exact q H'
end
section
theorem all_mk {l : PySem.W.OpenLaw} {w : World} {K : PySem.W.Frag} {h : Heap} {mg : Str → Option Value} {fa : Addr} {t_FIRST : Tok} {t_LAST : Tok} {t_FAR : Tok} {CE : Addr} {tE1 tE2 : Tok} {C WA WB : Addr} {o_W o_B : Obj} {its_W its_B : List Value} {n_W n_B : Nat} {f_is_number : Addr} {od_is_number an_is_number : Option Addr} {sl_is_number : Array (Option Value)} {oc_is_number kV_is_number dc_is_number pm_is_number cd_is_number ct_is_number : Value} {f_is_edge : Addr} {od_is_edge an_is_edge : Option Addr} {sl_is_edge : Array (Option Value)} {oc_is_edge kV_is_edge dc_is_edge pm_is_edge cd_is_edge ct_is_edge : Value} {f_is_pair : Addr} {od_is_pair an_is_pair : Option Addr} {sl_is_pair : Array (Option Value)} {oc_is_pair kV_is_pair dc_is_pair pm_is_pair cd_is_pair ct_is_pair : Value} {f_is_stretch : Addr} {od_is_stretch an_is_stretch : Option Addr} {sl_is_stretch : Array (Option Value)} {oc_is_stretch kV_is_stretch dc_is_stretch pm_is_stretch cd_is_stretch ct_is_stretch : Value} {f_is_window : Addr} {od_is_window an_is_window : Option Addr} {sl_is_window : Array (Option Value)} {oc_is_window kV_is_window dc_is_window pm_is_window cd_is_window ct_is_window : Value} {f_check_ends : Addr} {od_check_ends an_check_ends : Option Addr} {sl_check_ends : Array (Option Value)} {oc_check_ends kV_check_ends dc_check_ends pm_check_ends cd_check_ends ct_check_ends : Value} {f_check_stretches : Addr} {od_check_stretches an_check_stretches : Option Addr} {sl_check_stretches : Array (Option Value)} {oc_check_stretches kV_check_stretches dc_check_stretches pm_check_stretches cd_check_stretches ct_check_stretches : Value} {f_is_empty : Addr} {od_is_empty an_is_empty : Option Addr} {sl_is_empty : Array (Option Value)} {oc_is_empty kV_is_empty dc_is_empty pm_is_empty cd_is_empty ct_is_empty : Value} {T_is_empty : Addr} {o_is_empty : Obj} {its_is_empty : List Value} {n_is_empty : Nat} {f_turns : Addr} {od_turns an_turns : Option Addr} {sl_turns : Array (Option Value)} {oc_turns kV_turns dc_turns pm_turns cd_turns ct_turns : Value} {f_counts_at : Addr} {od_counts_at an_counts_at : Option Addr} {sl_counts_at : Array (Option Value)} {oc_counts_at kV_counts_at dc_counts_at pm_counts_at cd_counts_at ct_counts_at : Value} {f_wanted_times : Addr} {od_wanted_times an_wanted_times : Option Addr} {sl_wanted_times : Array (Option Value)} {oc_wanted_times kV_wanted_times dc_wanted_times pm_wanted_times cd_wanted_times ct_wanted_times : Value} {f_is_moment : Addr} {od_is_moment an_is_moment : Option Addr} {sl_is_moment : Array (Option Value)} {oc_is_moment kV_is_moment dc_is_moment pm_is_moment cd_is_moment ct_is_moment : Value} {f_check_moment : Addr} {od_check_moment an_check_moment : Option Addr} {sl_check_moment : Array (Option Value)} {oc_check_moment kV_check_moment dc_check_moment pm_check_moment cd_check_moment ct_check_moment : Value} {f_is_event : Addr} {od_is_event an_is_event : Option Addr} {sl_is_event : Array (Option Value)} {oc_is_event kV_is_event dc_is_event pm_is_event cd_is_event ct_is_event : Value} {f_check_events : Addr} {od_check_events an_check_events : Option Addr} {sl_check_events : Array (Option Value)} {oc_check_events kV_check_events dc_check_events pm_check_events cd_check_events ct_check_events : Value} {f_insides_at : Addr} {od_insides_at an_insides_at : Option Addr} {sl_insides_at : Array (Option Value)} {oc_insides_at kV_insides_at dc_insides_at pm_insides_at cd_insides_at ct_insides_at : Value} {f_check_window : Addr} {od_check_window an_check_window : Option Addr} {sl_check_window : Array (Option Value)} {oc_check_window kV_check_window dc_check_window pm_check_window cd_check_window ct_check_window : Value} {f_check_word : Addr} {od_check_word an_check_word : Option Addr} {sl_check_word : Array (Option Value)} {oc_check_word kV_check_word dc_check_word pm_check_word cd_check_word ct_check_word : Value} {f_Moments_init : Addr} {od_Moments_init an_Moments_init : Option Addr} {sl_Moments_init : Array (Option Value)} {oc_Moments_init dc_Moments_init pm_Moments_init cd_Moments_init ct_Moments_init : Value} {D_Moments_init : Addr} {u1_Moments_init : Tok} {u2_Moments_init : Tok} {f_Moments_uses_window : Addr} {od_Moments_uses_window an_Moments_uses_window : Option Addr} {sl_Moments_uses_window : Array (Option Value)} {oc_Moments_uses_window kV_Moments_uses_window dc_Moments_uses_window pm_Moments_uses_window cd_Moments_uses_window ct_Moments_uses_window : Value} {P_Moments_uses_window : Addr} {rest_Moments_uses_window : List Value} {f_check_need : Addr} {od_check_need an_check_need : Option Addr} {sl_check_need : Array (Option Value)} {oc_check_need kV_check_need dc_check_need pm_check_need cd_check_need ct_check_need : Value} {f_wanted_at : Addr} {od_wanted_at an_wanted_at : Option Addr} {sl_wanted_at : Array (Option Value)} {oc_wanted_at kV_wanted_at dc_wanted_at pm_wanted_at cd_wanted_at ct_wanted_at : Value} {f_Moments_wanted : Addr} {od_Moments_wanted an_Moments_wanted : Option Addr} {sl_Moments_wanted : Array (Option Value)} {oc_Moments_wanted kV_Moments_wanted dc_Moments_wanted pm_Moments_wanted cd_Moments_wanted ct_Moments_wanted : Value} {T_Moments_wanted : Addr} {o_Moments_wanted : Obj} {its_Moments_wanted : List Value} {n_Moments_wanted : Nat} {f_l_bag : Addr} {od_l_bag an_l_bag : Option Addr} {sl_l_bag : Array (Option Value)} {oc_l_bag kV_l_bag dc_l_bag pm_l_bag cd_l_bag ct_l_bag : Value} {f_l_take : Addr} {od_l_take an_l_take : Option Addr} {sl_l_take : Array (Option Value)} {oc_l_take kV_l_take dc_l_take pm_l_take cd_l_take ct_l_take : Value} {f_l_of : Addr} {od_l_of an_l_of : Option Addr} {sl_l_of : Array (Option Value)} {oc_l_of kV_l_of dc_l_of pm_l_of cd_l_of ct_l_of : Value} {f_l_edge : Addr} {od_l_edge an_l_edge : Option Addr} {sl_l_edge : Array (Option Value)} {oc_l_edge kV_l_edge dc_l_edge pm_l_edge cd_l_edge ct_l_edge : Value} {f_l_span : Addr} {od_l_span an_l_span : Option Addr} {sl_l_span : Array (Option Value)} {oc_l_span kV_l_span dc_l_span pm_l_span cd_l_span ct_l_span : Value} {f_l_spans : Addr} {od_l_spans an_l_spans : Option Addr} {sl_l_spans : Array (Option Value)} {oc_l_spans kV_l_spans dc_l_spans pm_l_spans cd_l_spans ct_l_spans : Value} {f_l_window : Addr} {od_l_window an_l_window : Option Addr} {sl_l_window : Array (Option Value)} {oc_l_window kV_l_window dc_l_window pm_l_window cd_l_window ct_l_window : Value} {f_l_in : Addr} {od_l_in an_l_in : Option Addr} {sl_l_in : Array (Option Value)} {oc_l_in kV_l_in dc_l_in pm_l_in cd_l_in ct_l_in : Value} {f_l_times : Addr} {od_l_times an_l_times : Option Addr} {sl_l_times : Array (Option Value)} {oc_l_times kV_l_times dc_l_times pm_l_times cd_l_times ct_l_times : Value} {f_l_points : Addr} {od_l_points an_l_points : Option Addr} {sl_l_points : Array (Option Value)} {oc_l_points kV_l_points dc_l_points pm_l_points cd_l_points ct_l_points : Value} {f_l_events : Addr} {od_l_events an_l_events : Option Addr} {sl_l_events : Array (Option Value)} {oc_l_events kV_l_events dc_l_events pm_l_events cd_l_events ct_l_events : Value} {f_l_events_sorted : Addr} {od_l_events_sorted an_l_events_sorted : Option Addr} {sl_l_events_sorted : Array (Option Value)} {oc_l_events_sorted kV_l_events_sorted dc_l_events_sorted pm_l_events_sorted cd_l_events_sorted ct_l_events_sorted : Value} {f_l_is_inside_right : Addr} {od_l_is_inside_right an_l_is_inside_right : Option Addr} {sl_l_is_inside_right : Array (Option Value)} {oc_l_is_inside_right kV_l_is_inside_right dc_l_is_inside_right pm_l_is_inside_right cd_l_is_inside_right ct_l_is_inside_right : Value} {f_law : Addr} {od_law an_law : Option Addr} {sl_law : Array (Option Value)} {oc_law kV_law dc_law pm_law cd_law ct_law : Value} (X : K.In h) (G : h.Ns mainGlobals mg) (hfa : mg "law" = some (.ref fa))
    (z_abs : PySem.W.nsIn K mainGlobals "abs" = some none)
    (z_bool : PySem.W.nsIn K mainGlobals "bool" = some none)
    (z_enumerate : PySem.W.nsIn K mainGlobals "enumerate" = some none)
    (z_int : PySem.W.nsIn K mainGlobals "int" = some none)
    (z_isinstance : PySem.W.nsIn K mainGlobals "isinstance" = some none)
    (z_len : PySem.W.nsIn K mainGlobals "len" = some none)
    (z_list : PySem.W.nsIn K mainGlobals "list" = some none)
    (z_max : PySem.W.nsIn K mainGlobals "max" = some none)
    (z_min : PySem.W.nsIn K mainGlobals "min" = some none)
    (z_range : PySem.W.nsIn K mainGlobals "range" = some none)
    (z_repr : PySem.W.nsIn K mainGlobals "repr" = some none)
    (z_sorted : PySem.W.nsIn K mainGlobals "sorted" = some none)
    (z_tuple : PySem.W.nsIn K mainGlobals "tuple" = some none)
    (z_zip : PySem.W.nsIn K mainGlobals "zip" = some none)
    (c_FIRST : PySem.W.nsIn K mainGlobals "FIRST" = some (some (.int (-10000000000000000000000000000000) t_FIRST)))
    (c_LAST : PySem.W.nsIn K mainGlobals "LAST" = some (some (.int (10000000000000000000000000000000) t_LAST)))
    (c_FAR : PySem.W.nsIn K mainGlobals "FAR" = some (some (.int (1000000000000000000000000000000) t_FAR)))
    (e_g : PySem.W.nsIn K mainGlobals "Ends" = some (some (.ref CE)))
    (e_rd : PySem.W.readsIn K CE (.type "type") = true)
    (e_ga : PySem.W.specialIn K (.ref CE) "__getattribute__" = some (some (.builtin "type.__getattribute__")))
    (e_1 : PySem.W.findCls K (.ref CE) (.type "type") "HALF" = some (.val (.str "half" tE1)))
    (e_2 : PySem.W.findCls K (.ref CE) (.type "type") "SHUT" = some (.val (.str "shut" tE2)))
    (c_at : PySem.W.nsIn K mainGlobals "Moments" = some (some (.ref C)))
    (c_pg : PySem.W.plainGet K C Str.empty = true)
    (c_hd : PySem.W.hasDictIn K C = true)
    (c_po : PySem.W.plainOver K C = true)
    (c_sa : PySem.W.findIn K (.ref C) "__setattr__" = some (some (.builtin "object.__setattr__")))
    (c_mk : PySem.W.makesIn K C = true)
    (c_kc : PySem.W.keepIn K (.ref C) = true)
    (c_nH : PySem.W.findIn K (.ref C) "which" = some none)
    (c_nW : PySem.W.findIn K (.ref C) "within" = some none)
    (c_nF : PySem.W.findIn K (.ref C) "form" = some none)
    (c_nE : PySem.W.findIn K (.ref C) "ends" = some none)
    (w_at : PySem.W.nsIn K mainGlobals "TIMES" = some (some (.ref WA)))
    (w_1 : K.lookup WA = some o_W)
    (w_2 : o_W.data = .seq its_W.toArray n_W)
    (w_3 : Vals [.str "some", .str "none", .str "all", .str "one", .str "two", .str "each", .str "inside"] its_W)
    (w_4 : o_W.cls = .type "tuple")
    (w_5 : its_W.toArray.size ≤ sizeLine)
    (v_at : PySem.W.nsIn K mainGlobals "FORMS" = some (some (.ref WB)))
    (v_1 : K.lookup WB = some o_B)
    (v_2 : o_B.data = .seq its_B.toArray n_B)
    (v_3 : Vals [.str "any", .str "full", .str "one", .str "cut"] its_B)
    (v_4 : o_B.cls = .type "tuple")
    (v_5 : its_B.toArray.size ≤ sizeLine)
    (a_is_number : PySem.W.nsIn K mainGlobals "is_number" = some (some (.ref f_is_number)))
    (l_is_number : K.lookup f_is_number = some ⟨oc_is_number, od_is_number, .func (PySem.W.fnOf "is_number" "is_number" (defArgs s_is_number) (defBody s_is_number) (defScope s_is_number) .none kV_is_number dc_is_number pm_is_number an_is_number cd_is_number ct_is_number), sl_is_number⟩)
    (c_is_number : PySem.W.codeIn K cd_is_number "is_number" = true)
    (k_is_number : PySem.W.keepIn K (.ref f_is_number) = true)
    (a_is_edge : PySem.W.nsIn K mainGlobals "is_edge" = some (some (.ref f_is_edge)))
    (l_is_edge : K.lookup f_is_edge = some ⟨oc_is_edge, od_is_edge, .func (PySem.W.fnOf "is_edge" "is_edge" (defArgs s_is_edge) (defBody s_is_edge) (defScope s_is_edge) .none kV_is_edge dc_is_edge pm_is_edge an_is_edge cd_is_edge ct_is_edge), sl_is_edge⟩)
    (c_is_edge : PySem.W.codeIn K cd_is_edge "is_edge" = true)
    (k_is_edge : PySem.W.keepIn K (.ref f_is_edge) = true)
    (a_is_pair : PySem.W.nsIn K mainGlobals "is_pair" = some (some (.ref f_is_pair)))
    (l_is_pair : K.lookup f_is_pair = some ⟨oc_is_pair, od_is_pair, .func (PySem.W.fnOf "is_pair" "is_pair" (defArgs s_is_pair) (defBody s_is_pair) (defScope s_is_pair) .none kV_is_pair dc_is_pair pm_is_pair an_is_pair cd_is_pair ct_is_pair), sl_is_pair⟩)
    (c_is_pair : PySem.W.codeIn K cd_is_pair "is_pair" = true)
    (k_is_pair : PySem.W.keepIn K (.ref f_is_pair) = true)
    (a_is_stretch : PySem.W.nsIn K mainGlobals "is_stretch" = some (some (.ref f_is_stretch)))
    (l_is_stretch : K.lookup f_is_stretch = some ⟨oc_is_stretch, od_is_stretch, .func (PySem.W.fnOf "is_stretch" "is_stretch" (defArgs s_is_stretch) (defBody s_is_stretch) (defScope s_is_stretch) .none kV_is_stretch dc_is_stretch pm_is_stretch an_is_stretch cd_is_stretch ct_is_stretch), sl_is_stretch⟩)
    (c_is_stretch : PySem.W.codeIn K cd_is_stretch "is_stretch" = true)
    (k_is_stretch : PySem.W.keepIn K (.ref f_is_stretch) = true)
    (a_is_window : PySem.W.nsIn K mainGlobals "is_window" = some (some (.ref f_is_window)))
    (l_is_window : K.lookup f_is_window = some ⟨oc_is_window, od_is_window, .func (PySem.W.fnOf "is_window" "is_window" (defArgs s_is_window) (defBody s_is_window) (defScope s_is_window) .none kV_is_window dc_is_window pm_is_window an_is_window cd_is_window ct_is_window), sl_is_window⟩)
    (c_is_window : PySem.W.codeIn K cd_is_window "is_window" = true)
    (k_is_window : PySem.W.keepIn K (.ref f_is_window) = true)
    (a_check_ends : PySem.W.nsIn K mainGlobals "check_ends" = some (some (.ref f_check_ends)))
    (l_check_ends : K.lookup f_check_ends = some ⟨oc_check_ends, od_check_ends, .func (PySem.W.fnOf "check_ends" "check_ends" (defArgs s_check_ends) (defBody s_check_ends) (defScope s_check_ends) .none kV_check_ends dc_check_ends pm_check_ends an_check_ends cd_check_ends ct_check_ends), sl_check_ends⟩)
    (c_check_ends : PySem.W.codeIn K cd_check_ends "check_ends" = true)
    (k_check_ends : PySem.W.keepIn K (.ref f_check_ends) = true)
    (a_check_stretches : PySem.W.nsIn K mainGlobals "check_stretches" = some (some (.ref f_check_stretches)))
    (l_check_stretches : K.lookup f_check_stretches = some ⟨oc_check_stretches, od_check_stretches, .func (PySem.W.fnOf "check_stretches" "check_stretches" (defArgs s_check_stretches) (defBody s_check_stretches) (defScope s_check_stretches) .none kV_check_stretches dc_check_stretches pm_check_stretches an_check_stretches cd_check_stretches ct_check_stretches), sl_check_stretches⟩)
    (c_check_stretches : PySem.W.codeIn K cd_check_stretches "check_stretches" = true)
    (k_check_stretches : PySem.W.keepIn K (.ref f_check_stretches) = true)
    (a_is_empty : PySem.W.nsIn K mainGlobals "is_empty" = some (some (.ref f_is_empty)))
    (l_is_empty : K.lookup f_is_empty = some ⟨oc_is_empty, od_is_empty, .func (PySem.W.fnOf "is_empty" "is_empty" (defArgs s_is_empty) (defBody s_is_empty) (defScope s_is_empty) (.ref T_is_empty) kV_is_empty dc_is_empty pm_is_empty an_is_empty cd_is_empty ct_is_empty), sl_is_empty⟩)
    (c_is_empty : PySem.W.codeIn K cd_is_empty "is_empty" = true)
    (k_is_empty : PySem.W.keepIn K (.ref f_is_empty) = true)
    (T1_is_empty : K.lookup T_is_empty = some o_is_empty)
    (T2_is_empty : o_is_empty.data = .seq its_is_empty.toArray n_is_empty)
    (T3_is_empty : Vals [.str "half"] its_is_empty)
    (a_turns : PySem.W.nsIn K mainGlobals "turns" = some (some (.ref f_turns)))
    (l_turns : K.lookup f_turns = some ⟨oc_turns, od_turns, .func (PySem.W.fnOf "turns" "turns" (defArgs s_turns) (defBody s_turns) (defScope s_turns) .none kV_turns dc_turns pm_turns an_turns cd_turns ct_turns), sl_turns⟩)
    (c_turns : PySem.W.codeIn K cd_turns "turns" = true)
    (k_turns : PySem.W.keepIn K (.ref f_turns) = true)
    (a_counts_at : PySem.W.nsIn K mainGlobals "counts_at" = some (some (.ref f_counts_at)))
    (l_counts_at : K.lookup f_counts_at = some ⟨oc_counts_at, od_counts_at, .func (PySem.W.fnOf "counts_at" "counts_at" (defArgs s_counts_at) (defBody s_counts_at) (defScope s_counts_at) .none kV_counts_at dc_counts_at pm_counts_at an_counts_at cd_counts_at ct_counts_at), sl_counts_at⟩)
    (c_counts_at : PySem.W.codeIn K cd_counts_at "counts_at" = true)
    (k_counts_at : PySem.W.keepIn K (.ref f_counts_at) = true)
    (a_wanted_times : PySem.W.nsIn K mainGlobals "wanted_times" = some (some (.ref f_wanted_times)))
    (l_wanted_times : K.lookup f_wanted_times = some ⟨oc_wanted_times, od_wanted_times, .func (PySem.W.fnOf "wanted_times" "wanted_times" (defArgs s_wanted_times) (defBody s_wanted_times) (defScope s_wanted_times) .none kV_wanted_times dc_wanted_times pm_wanted_times an_wanted_times cd_wanted_times ct_wanted_times), sl_wanted_times⟩)
    (c_wanted_times : PySem.W.codeIn K cd_wanted_times "wanted_times" = true)
    (k_wanted_times : PySem.W.keepIn K (.ref f_wanted_times) = true)
    (a_is_moment : PySem.W.nsIn K mainGlobals "is_moment" = some (some (.ref f_is_moment)))
    (l_is_moment : K.lookup f_is_moment = some ⟨oc_is_moment, od_is_moment, .func (PySem.W.fnOf "is_moment" "is_moment" (defArgs s_is_moment) (defBody s_is_moment) (defScope s_is_moment) .none kV_is_moment dc_is_moment pm_is_moment an_is_moment cd_is_moment ct_is_moment), sl_is_moment⟩)
    (c_is_moment : PySem.W.codeIn K cd_is_moment "is_moment" = true)
    (k_is_moment : PySem.W.keepIn K (.ref f_is_moment) = true)
    (a_check_moment : PySem.W.nsIn K mainGlobals "check_moment" = some (some (.ref f_check_moment)))
    (l_check_moment : K.lookup f_check_moment = some ⟨oc_check_moment, od_check_moment, .func (PySem.W.fnOf "check_moment" "check_moment" (defArgs s_check_moment) (defBody s_check_moment) (defScope s_check_moment) .none kV_check_moment dc_check_moment pm_check_moment an_check_moment cd_check_moment ct_check_moment), sl_check_moment⟩)
    (c_check_moment : PySem.W.codeIn K cd_check_moment "check_moment" = true)
    (k_check_moment : PySem.W.keepIn K (.ref f_check_moment) = true)
    (a_is_event : PySem.W.nsIn K mainGlobals "is_event" = some (some (.ref f_is_event)))
    (l_is_event : K.lookup f_is_event = some ⟨oc_is_event, od_is_event, .func (PySem.W.fnOf "is_event" "is_event" (defArgs s_is_event) (defBody s_is_event) (defScope s_is_event) .none kV_is_event dc_is_event pm_is_event an_is_event cd_is_event ct_is_event), sl_is_event⟩)
    (c_is_event : PySem.W.codeIn K cd_is_event "is_event" = true)
    (k_is_event : PySem.W.keepIn K (.ref f_is_event) = true)
    (a_check_events : PySem.W.nsIn K mainGlobals "check_events" = some (some (.ref f_check_events)))
    (l_check_events : K.lookup f_check_events = some ⟨oc_check_events, od_check_events, .func (PySem.W.fnOf "check_events" "check_events" (defArgs s_check_events) (defBody s_check_events) (defScope s_check_events) .none kV_check_events dc_check_events pm_check_events an_check_events cd_check_events ct_check_events), sl_check_events⟩)
    (c_check_events : PySem.W.codeIn K cd_check_events "check_events" = true)
    (k_check_events : PySem.W.keepIn K (.ref f_check_events) = true)
    (a_insides_at : PySem.W.nsIn K mainGlobals "insides_at" = some (some (.ref f_insides_at)))
    (l_insides_at : K.lookup f_insides_at = some ⟨oc_insides_at, od_insides_at, .func (PySem.W.fnOf "insides_at" "insides_at" (defArgs s_insides_at) (defBody s_insides_at) (defScope s_insides_at) .none kV_insides_at dc_insides_at pm_insides_at an_insides_at cd_insides_at ct_insides_at), sl_insides_at⟩)
    (c_insides_at : PySem.W.codeIn K cd_insides_at "insides_at" = true)
    (k_insides_at : PySem.W.keepIn K (.ref f_insides_at) = true)
    (a_check_window : PySem.W.nsIn K mainGlobals "check_window" = some (some (.ref f_check_window)))
    (l_check_window : K.lookup f_check_window = some ⟨oc_check_window, od_check_window, .func (PySem.W.fnOf "check_window" "check_window" (defArgs s_check_window) (defBody s_check_window) (defScope s_check_window) .none kV_check_window dc_check_window pm_check_window an_check_window cd_check_window ct_check_window), sl_check_window⟩)
    (c_check_window : PySem.W.codeIn K cd_check_window "check_window" = true)
    (k_check_window : PySem.W.keepIn K (.ref f_check_window) = true)
    (a_check_word : PySem.W.nsIn K mainGlobals "check_word" = some (some (.ref f_check_word)))
    (l_check_word : K.lookup f_check_word = some ⟨oc_check_word, od_check_word, .func (PySem.W.fnOf "check_word" "check_word" (defArgs s_check_word) (defBody s_check_word) (defScope s_check_word) .none kV_check_word dc_check_word pm_check_word an_check_word cd_check_word ct_check_word), sl_check_word⟩)
    (c_check_word : PySem.W.codeIn K cd_check_word "check_word" = true)
    (k_check_word : PySem.W.keepIn K (.ref f_check_word) = true)
    (a_Moments_init : PySem.W.findIn K (.ref C) "__init__" = some (some (.ref f_Moments_init)))
    (l_Moments_init : K.lookup f_Moments_init = some ⟨oc_Moments_init, od_Moments_init, .func (PySem.W.fnOf "__init__" "Moments.__init__" (defArgs s_Moments_init) (defBody s_Moments_init) (defScope s_Moments_init) .none (.ref D_Moments_init) dc_Moments_init pm_Moments_init an_Moments_init cd_Moments_init ct_Moments_init), sl_Moments_init⟩)
    (c_Moments_init : PySem.W.codeIn K cd_Moments_init "Moments.__init__" = true)
    (k_Moments_init : PySem.W.keepIn K (.ref f_Moments_init) = true)
    (i_Moments_init : PySem.W.isFn K (.ref f_Moments_init) = true)
    (n0_Moments_init : PySem.W.nsIn K D_Moments_init "within" = some (some (.bool false)))
    (n1_Moments_init : PySem.W.nsIn K D_Moments_init "form" = some (some (.str "one" u1_Moments_init)))
    (n2_Moments_init : PySem.W.nsIn K D_Moments_init "ends" = some (some (.str "half" u2_Moments_init)))
    (a_Moments_uses_window : PySem.W.findIn K (.ref C) "uses_window" = some (some (.ref P_Moments_uses_window)))
    (g_Moments_uses_window : PySem.W.specialIn K (.ref P_Moments_uses_window) "__get__" = some (some (.builtin "property.__get__")))
    (t_Moments_uses_window : PySem.W.takesIn K (.ref P_Moments_uses_window) = some true)
    (r_Moments_uses_window : PySem.W.recIn K P_Moments_uses_window "property" = some (.ref f_Moments_uses_window :: rest_Moments_uses_window))
    (l_Moments_uses_window : K.lookup f_Moments_uses_window = some ⟨oc_Moments_uses_window, od_Moments_uses_window, .func (PySem.W.fnOf "uses_window" "Moments.uses_window" (defArgs s_Moments_uses_window) (defBody s_Moments_uses_window) (defScope s_Moments_uses_window) .none kV_Moments_uses_window dc_Moments_uses_window pm_Moments_uses_window an_Moments_uses_window cd_Moments_uses_window ct_Moments_uses_window), sl_Moments_uses_window⟩)
    (c_Moments_uses_window : PySem.W.codeIn K cd_Moments_uses_window "Moments.uses_window" = true)
    (k_Moments_uses_window : PySem.W.keepIn K (.ref f_Moments_uses_window) = true)
    (a_check_need : PySem.W.nsIn K mainGlobals "check_need" = some (some (.ref f_check_need)))
    (l_check_need : K.lookup f_check_need = some ⟨oc_check_need, od_check_need, .func (PySem.W.fnOf "check_need" "check_need" (defArgs s_check_need) (defBody s_check_need) (defScope s_check_need) .none kV_check_need dc_check_need pm_check_need an_check_need cd_check_need ct_check_need), sl_check_need⟩)
    (c_check_need : PySem.W.codeIn K cd_check_need "check_need" = true)
    (k_check_need : PySem.W.keepIn K (.ref f_check_need) = true)
    (a_wanted_at : PySem.W.nsIn K mainGlobals "wanted_at" = some (some (.ref f_wanted_at)))
    (l_wanted_at : K.lookup f_wanted_at = some ⟨oc_wanted_at, od_wanted_at, .func (PySem.W.fnOf "wanted_at" "wanted_at" (defArgs s_wanted_at) (defBody s_wanted_at) (defScope s_wanted_at) .none kV_wanted_at dc_wanted_at pm_wanted_at an_wanted_at cd_wanted_at ct_wanted_at), sl_wanted_at⟩)
    (c_wanted_at : PySem.W.codeIn K cd_wanted_at "wanted_at" = true)
    (k_wanted_at : PySem.W.keepIn K (.ref f_wanted_at) = true)
    (a_Moments_wanted : PySem.W.findIn K (.ref C) "wanted" = some (some (.ref f_Moments_wanted)))
    (l_Moments_wanted : K.lookup f_Moments_wanted = some ⟨oc_Moments_wanted, od_Moments_wanted, .func (PySem.W.fnOf "wanted" "Moments.wanted" (defArgs s_Moments_wanted) (defBody s_Moments_wanted) (defScope s_Moments_wanted) (.ref T_Moments_wanted) kV_Moments_wanted dc_Moments_wanted pm_Moments_wanted an_Moments_wanted cd_Moments_wanted ct_Moments_wanted), sl_Moments_wanted⟩)
    (c_Moments_wanted : PySem.W.codeIn K cd_Moments_wanted "Moments.wanted" = true)
    (k_Moments_wanted : PySem.W.keepIn K (.ref f_Moments_wanted) = true)
    (i_Moments_wanted : PySem.W.isFn K (.ref f_Moments_wanted) = true)
    (T1_Moments_wanted : K.lookup T_Moments_wanted = some o_Moments_wanted)
    (T2_Moments_wanted : o_Moments_wanted.data = .seq its_Moments_wanted.toArray n_Moments_wanted)
    (T3_Moments_wanted : Vals [.non] its_Moments_wanted)
    (a_l_bag : PySem.W.nsIn K mainGlobals "_law_bag" = some (some (.ref f_l_bag)))
    (l_l_bag : K.lookup f_l_bag = some ⟨oc_l_bag, od_l_bag, .func (PySem.W.fnOf "_law_bag" "_law_bag" (defArgs s_l_bag) (defBody s_l_bag) (defScope s_l_bag) .none kV_l_bag dc_l_bag pm_l_bag an_l_bag cd_l_bag ct_l_bag), sl_l_bag⟩)
    (c_l_bag : PySem.W.codeIn K cd_l_bag "_law_bag" = true)
    (k_l_bag : PySem.W.keepIn K (.ref f_l_bag) = true)
    (a_l_take : PySem.W.nsIn K mainGlobals "_law_take" = some (some (.ref f_l_take)))
    (l_l_take : K.lookup f_l_take = some ⟨oc_l_take, od_l_take, .func (PySem.W.fnOf "_law_take" "_law_take" (defArgs s_l_take) (defBody s_l_take) (defScope s_l_take) .none kV_l_take dc_l_take pm_l_take an_l_take cd_l_take ct_l_take), sl_l_take⟩)
    (c_l_take : PySem.W.codeIn K cd_l_take "_law_take" = true)
    (k_l_take : PySem.W.keepIn K (.ref f_l_take) = true)
    (a_l_of : PySem.W.nsIn K mainGlobals "_law_of" = some (some (.ref f_l_of)))
    (l_l_of : K.lookup f_l_of = some ⟨oc_l_of, od_l_of, .func (PySem.W.fnOf "_law_of" "_law_of" (defArgs s_l_of) (defBody s_l_of) (defScope s_l_of) .none kV_l_of dc_l_of pm_l_of an_l_of cd_l_of ct_l_of), sl_l_of⟩)
    (c_l_of : PySem.W.codeIn K cd_l_of "_law_of" = true)
    (k_l_of : PySem.W.keepIn K (.ref f_l_of) = true)
    (a_l_edge : PySem.W.nsIn K mainGlobals "_law_edge" = some (some (.ref f_l_edge)))
    (l_l_edge : K.lookup f_l_edge = some ⟨oc_l_edge, od_l_edge, .func (PySem.W.fnOf "_law_edge" "_law_edge" (defArgs s_l_edge) (defBody s_l_edge) (defScope s_l_edge) .none kV_l_edge dc_l_edge pm_l_edge an_l_edge cd_l_edge ct_l_edge), sl_l_edge⟩)
    (c_l_edge : PySem.W.codeIn K cd_l_edge "_law_edge" = true)
    (k_l_edge : PySem.W.keepIn K (.ref f_l_edge) = true)
    (a_l_span : PySem.W.nsIn K mainGlobals "_law_span" = some (some (.ref f_l_span)))
    (l_l_span : K.lookup f_l_span = some ⟨oc_l_span, od_l_span, .func (PySem.W.fnOf "_law_span" "_law_span" (defArgs s_l_span) (defBody s_l_span) (defScope s_l_span) .none kV_l_span dc_l_span pm_l_span an_l_span cd_l_span ct_l_span), sl_l_span⟩)
    (c_l_span : PySem.W.codeIn K cd_l_span "_law_span" = true)
    (k_l_span : PySem.W.keepIn K (.ref f_l_span) = true)
    (a_l_spans : PySem.W.nsIn K mainGlobals "_law_spans" = some (some (.ref f_l_spans)))
    (l_l_spans : K.lookup f_l_spans = some ⟨oc_l_spans, od_l_spans, .func (PySem.W.fnOf "_law_spans" "_law_spans" (defArgs s_l_spans) (defBody s_l_spans) (defScope s_l_spans) .none kV_l_spans dc_l_spans pm_l_spans an_l_spans cd_l_spans ct_l_spans), sl_l_spans⟩)
    (c_l_spans : PySem.W.codeIn K cd_l_spans "_law_spans" = true)
    (k_l_spans : PySem.W.keepIn K (.ref f_l_spans) = true)
    (a_l_window : PySem.W.nsIn K mainGlobals "_law_window" = some (some (.ref f_l_window)))
    (l_l_window : K.lookup f_l_window = some ⟨oc_l_window, od_l_window, .func (PySem.W.fnOf "_law_window" "_law_window" (defArgs s_l_window) (defBody s_l_window) (defScope s_l_window) .none kV_l_window dc_l_window pm_l_window an_l_window cd_l_window ct_l_window), sl_l_window⟩)
    (c_l_window : PySem.W.codeIn K cd_l_window "_law_window" = true)
    (k_l_window : PySem.W.keepIn K (.ref f_l_window) = true)
    (a_l_in : PySem.W.nsIn K mainGlobals "_law_in" = some (some (.ref f_l_in)))
    (l_l_in : K.lookup f_l_in = some ⟨oc_l_in, od_l_in, .func (PySem.W.fnOf "_law_in" "_law_in" (defArgs s_l_in) (defBody s_l_in) (defScope s_l_in) .none kV_l_in dc_l_in pm_l_in an_l_in cd_l_in ct_l_in), sl_l_in⟩)
    (c_l_in : PySem.W.codeIn K cd_l_in "_law_in" = true)
    (k_l_in : PySem.W.keepIn K (.ref f_l_in) = true)
    (a_l_times : PySem.W.nsIn K mainGlobals "_law_times" = some (some (.ref f_l_times)))
    (l_l_times : K.lookup f_l_times = some ⟨oc_l_times, od_l_times, .func (PySem.W.fnOf "_law_times" "_law_times" (defArgs s_l_times) (defBody s_l_times) (defScope s_l_times) .none kV_l_times dc_l_times pm_l_times an_l_times cd_l_times ct_l_times), sl_l_times⟩)
    (c_l_times : PySem.W.codeIn K cd_l_times "_law_times" = true)
    (k_l_times : PySem.W.keepIn K (.ref f_l_times) = true)
    (a_l_points : PySem.W.nsIn K mainGlobals "_law_points" = some (some (.ref f_l_points)))
    (l_l_points : K.lookup f_l_points = some ⟨oc_l_points, od_l_points, .func (PySem.W.fnOf "_law_points" "_law_points" (defArgs s_l_points) (defBody s_l_points) (defScope s_l_points) .none kV_l_points dc_l_points pm_l_points an_l_points cd_l_points ct_l_points), sl_l_points⟩)
    (c_l_points : PySem.W.codeIn K cd_l_points "_law_points" = true)
    (k_l_points : PySem.W.keepIn K (.ref f_l_points) = true)
    (a_l_events : PySem.W.nsIn K mainGlobals "_law_events" = some (some (.ref f_l_events)))
    (l_l_events : K.lookup f_l_events = some ⟨oc_l_events, od_l_events, .func (PySem.W.fnOf "_law_events" "_law_events" (defArgs s_l_events) (defBody s_l_events) (defScope s_l_events) .none kV_l_events dc_l_events pm_l_events an_l_events cd_l_events ct_l_events), sl_l_events⟩)
    (c_l_events : PySem.W.codeIn K cd_l_events "_law_events" = true)
    (k_l_events : PySem.W.keepIn K (.ref f_l_events) = true)
    (a_l_events_sorted : PySem.W.nsIn K mainGlobals "_law_events_sorted" = some (some (.ref f_l_events_sorted)))
    (l_l_events_sorted : K.lookup f_l_events_sorted = some ⟨oc_l_events_sorted, od_l_events_sorted, .func (PySem.W.fnOf "_law_events_sorted" "_law_events_sorted" (defArgs s_l_events_sorted) (defBody s_l_events_sorted) (defScope s_l_events_sorted) .none kV_l_events_sorted dc_l_events_sorted pm_l_events_sorted an_l_events_sorted cd_l_events_sorted ct_l_events_sorted), sl_l_events_sorted⟩)
    (c_l_events_sorted : PySem.W.codeIn K cd_l_events_sorted "_law_events_sorted" = true)
    (k_l_events_sorted : PySem.W.keepIn K (.ref f_l_events_sorted) = true)
    (a_l_is_inside_right : PySem.W.nsIn K mainGlobals "_law_is_inside_right" = some (some (.ref f_l_is_inside_right)))
    (l_l_is_inside_right : K.lookup f_l_is_inside_right = some ⟨oc_l_is_inside_right, od_l_is_inside_right, .func (PySem.W.fnOf "_law_is_inside_right" "_law_is_inside_right" (defArgs s_l_is_inside_right) (defBody s_l_is_inside_right) (defScope s_l_is_inside_right) .none kV_l_is_inside_right dc_l_is_inside_right pm_l_is_inside_right an_l_is_inside_right cd_l_is_inside_right ct_l_is_inside_right), sl_l_is_inside_right⟩)
    (c_l_is_inside_right : PySem.W.codeIn K cd_l_is_inside_right "_law_is_inside_right" = true)
    (k_l_is_inside_right : PySem.W.keepIn K (.ref f_l_is_inside_right) = true)
    (a_law : PySem.W.nsIn K mainGlobals "law" = some (some (.ref f_law)))
    (l_law : K.lookup f_law = some ⟨oc_law, od_law, .func (PySem.W.fnOf "law" "law" (defArgs s_law) (defBody s_law) (defScope s_law) .none kV_law dc_law pm_law an_law cd_law ct_law), sl_law⟩)
    (c_law : PySem.W.codeIn K cd_law "law" = true)
    (k_law : PySem.W.keepIn K (.ref f_law) = true)
    : ∃ fd : FuncData, (∀ (s : Shared) (v : Value), BindsTo s fd ⟨[v], []⟩ [("_law_script", v)]) ∧ ∀ bh : Heap, K.In bh → bh.Ns mainGlobals mg → FnG l.prog w K mg bh 12 fa fd ["_law_script"] (sp_law K) := by
  have e := hfa.symm.trans (PySem.W.mg_of X G a_law)
  cases e
  have B : Blt mg := ⟨PySem.W.mg_none_of X G z_abs, PySem.W.mg_none_of X G z_bool, PySem.W.mg_none_of X G z_enumerate, PySem.W.mg_none_of X G z_int, PySem.W.mg_none_of X G z_isinstance, PySem.W.mg_none_of X G z_len, PySem.W.mg_none_of X G z_list, PySem.W.mg_none_of X G z_max, PySem.W.mg_none_of X G z_min, PySem.W.mg_none_of X G z_range, PySem.W.mg_none_of X G z_repr, PySem.W.mg_none_of X G z_sorted, PySem.W.mg_none_of X G z_tuple, PySem.W.mg_none_of X G z_zip⟩
  have T : Txt K mg := ⟨⟨t_FIRST, PySem.W.mg_of X G c_FIRST⟩, ⟨t_LAST, PySem.W.mg_of X G c_LAST⟩, ⟨t_FAR, PySem.W.mg_of X G c_FAR⟩, ⟨⟨CE, .type "type", _, _, PySem.W.mg_of X G e_g, ⟨e_rd, e_ga⟩, ⟨e_1, ⟨_, rfl⟩⟩, ⟨e_2, ⟨_, rfl⟩⟩⟩⟩⟩
  have F_is_number := fun_mk (st := s_is_number) l_is_number c_is_number k_is_number
  have b_is_number := F_is_number.binds (ps := ["value"]) fun _ _ _ _ _ _ us hl => match us, hl with | [_], _ => rfl
  have F_is_edge := fun_mk (st := s_is_edge) l_is_edge c_is_edge k_is_edge
  have b_is_edge := F_is_edge.binds (ps := ["value"]) fun _ _ _ _ _ _ us hl => match us, hl with | [_], _ => rfl
  have F_is_pair := fun_mk (st := s_is_pair) l_is_pair c_is_pair k_is_pair
  have b_is_pair := F_is_pair.binds (ps := ["value"]) fun _ _ _ _ _ _ us hl => match us, hl with | [_], _ => rfl
  have F_is_stretch := fun_mk (st := s_is_stretch) l_is_stretch c_is_stretch k_is_stretch
  have b_is_stretch := F_is_stretch.binds (ps := ["value"]) fun _ _ _ _ _ _ us hl => match us, hl with | [_], _ => rfl
  have F_is_window := fun_mk (st := s_is_window) l_is_window c_is_window k_is_window
  have b_is_window := F_is_window.binds (ps := ["value"]) fun _ _ _ _ _ _ us hl => match us, hl with | [_], _ => rfl
  have F_check_ends := fun_mk (st := s_check_ends) l_check_ends c_check_ends k_check_ends
  have b_check_ends := F_check_ends.binds (ps := ["ends"]) fun _ _ _ _ _ _ us hl => match us, hl with | [_], _ => rfl
  have F_check_stretches := fun_mk (st := s_check_stretches) l_check_stretches c_check_stretches k_check_stretches
  have b_check_stretches := F_check_stretches.binds (ps := ["spans"]) fun _ _ _ _ _ _ us hl => match us, hl with | [_], _ => rfl
  have F_is_empty : FunD K "is_empty" "is_empty" (defArgs s_is_empty) (defBody s_is_empty) (defScope s_is_empty) [.str "half"] [] f_is_empty _ := ⟨⟨oc_is_empty, od_is_empty, .ref T_is_empty, kV_is_empty, dc_is_empty, pm_is_empty, an_is_empty, cd_is_empty, ct_is_empty, sl_is_empty, rfl, l_is_empty, c_is_empty, .inr ⟨(fun z => nomatch z), T_is_empty, o_is_empty, its_is_empty, n_is_empty, rfl, T1_is_empty, T2_is_empty, T3_is_empty⟩, .inl rfl⟩, k_is_empty⟩
  have b_is_empty := bindsFull (ps := ["pair", "ends"]) F_is_empty (fun z => nomatch z) fun _ _ _ _ _ _ _ us its h1 h2 => match us, its, h1, h2 with | [_, _], [_], _, _ => ⟨_, rfl, rfl⟩
  have b1_is_empty := FunD.binds1 (ps := ["pair", "ends"]) F_is_empty 1 0 (fun z => nomatch z) rfl fun _ _ _ _ _ _ _ us its h1 h2 => match us, its, h1, h2 with | [_], [_], _, _ => ⟨_, rfl, rfl⟩
  have F_turns := fun_mk (st := s_turns) l_turns c_turns k_turns
  have b_turns := F_turns.binds (ps := ["pairs", "ends"]) fun _ _ _ _ _ _ us hl => match us, hl with | [_, _], _ => rfl
  have F_counts_at := fun_mk (st := s_counts_at) l_counts_at c_counts_at k_counts_at
  have b_counts_at := F_counts_at.binds (ps := ["pairs", "moments", "ends"]) fun _ _ _ _ _ _ us hl => match us, hl with | [_, _, _], _ => rfl
  have F_wanted_times := fun_mk (st := s_wanted_times) l_wanted_times c_wanted_times k_wanted_times
  have b_wanted_times := F_wanted_times.binds (ps := ["which", "held", "many"]) fun _ _ _ _ _ _ us hl => match us, hl with | [_, _, _], _ => rfl
  have F_is_moment := fun_mk (st := s_is_moment) l_is_moment c_is_moment k_is_moment
  have b_is_moment := F_is_moment.binds (ps := ["value"]) fun _ _ _ _ _ _ us hl => match us, hl with | [_], _ => rfl
  have F_check_moment := fun_mk (st := s_check_moment) l_check_moment c_check_moment k_check_moment
  have b_check_moment := F_check_moment.binds (ps := ["moment"]) fun _ _ _ _ _ _ us hl => match us, hl with | [_], _ => rfl
  have F_is_event := fun_mk (st := s_is_event) l_is_event c_is_event k_is_event
  have b_is_event := F_is_event.binds (ps := ["value"]) fun _ _ _ _ _ _ us hl => match us, hl with | [_], _ => rfl
  have F_check_events := fun_mk (st := s_check_events) l_check_events c_check_events k_check_events
  have b_check_events := F_check_events.binds (ps := ["events"]) fun _ _ _ _ _ _ us hl => match us, hl with | [_], _ => rfl
  have F_insides_at := fun_mk (st := s_insides_at) l_insides_at c_insides_at k_insides_at
  have b_insides_at := F_insides_at.binds (ps := ["events", "moments"]) fun _ _ _ _ _ _ us hl => match us, hl with | [_, _], _ => rfl
  have F_check_window := fun_mk (st := s_check_window) l_check_window c_check_window k_check_window
  have b_check_window := F_check_window.binds (ps := ["window"]) fun _ _ _ _ _ _ us hl => match us, hl with | [_], _ => rfl
  have F_check_word := fun_mk (st := s_check_word) l_check_word c_check_word k_check_word
  have b_check_word := F_check_word.binds (ps := ["word", "words"]) fun _ _ _ _ _ _ us hl => match us, hl with | [_, _], _ => rfl
  have F_Moments_init : FunD K "__init__" "Moments.__init__" (defArgs s_Moments_init) (defBody s_Moments_init) (defScope s_Moments_init) [] [("within", .bl false), ("form", .str "one"), ("ends", .str "half")] f_Moments_init _ := ⟨⟨oc_Moments_init, od_Moments_init, .none, .ref D_Moments_init, dc_Moments_init, pm_Moments_init, an_Moments_init, cd_Moments_init, ct_Moments_init, sl_Moments_init, rfl, l_Moments_init, c_Moments_init, .inl ⟨rfl, rfl⟩, .inr ⟨D_Moments_init, rfl, fun q hq => by (rcases List.mem_cons.mp hq with rfl | hq; exact ⟨_, n0_Moments_init, rfl⟩; rcases List.mem_cons.mp hq with rfl | hq; exact ⟨_, n1_Moments_init, ⟨_, rfl⟩⟩; rcases List.mem_cons.mp hq with rfl | hq; exact ⟨_, n2_Moments_init, ⟨_, rfl⟩⟩; exact absurd hq (List.not_mem_nil))⟩⟩, k_Moments_init⟩
  have b1_Moments_init := FunD.binds0 (ps := ["self", "which", "within", "form", "ends"]) F_Moments_init 2 (fun z => nomatch z) rfl fun _ _ _ _ _ _ us ks h1 h2 => match us, ks, h1, h2 with | [_, _], [_, _, _], _, _ => ⟨_, _, _, _, _, _, rfl, rfl, _, _, _, _, _, _, rfl, rfl, _, _, _, _, _, _, rfl, rfl, rfl⟩
  have kb_Moments_init := FunD.kbinds0 (ps := ["self", "which", "within", "form", "ends"]) F_Moments_init 2 ["within", "form", "ends"] [] (fun us _ ws => us ++ ws) (fun z => nomatch z) (fun _ h => nomatch h) (fun r1 _ r3 => r1.append r3) fun _ _ _ _ _ _ us mv ws h1 h2 h3 => match us, mv, ws, h1, h2, h3 with | [_, _], [], [_, _, _], _, _, _ => rfl
  have kc_Moments_init := FunD.kbinds0 (ps := ["self", "which", "within", "form", "ends"]) F_Moments_init 2 ["ends"] [("within", .bl false), ("form", .str "one")] (fun us mv ws => us ++ (mv ++ ws)) (fun z => nomatch z) (fun q hq => List.mem_append_left [(("ends", .str "half") : Str × V)] hq) (fun r1 r2 r3 => r1.append (r2.append r3)) fun _ _ _ _ _ _ us mv ws h1 h2 h3 => match us, mv, ws, h1, h2, h3 with | [_, _], [_, _], [_], _, _, _ => ⟨_, _, _, _, _, _, rfl, rfl, _, _, _, _, _, _, rfl, rfl, rfl⟩
  have F_Moments_uses_window := fun_mk (st := s_Moments_uses_window) l_Moments_uses_window c_Moments_uses_window k_Moments_uses_window
  have b_Moments_uses_window := F_Moments_uses_window.binds (ps := ["self"]) fun _ _ _ _ _ _ us hl => match us, hl with | [_], _ => rfl
  have F_check_need := fun_mk (st := s_check_need) l_check_need c_check_need k_check_need
  have b_check_need := F_check_need.binds (ps := ["wish", "window"]) fun _ _ _ _ _ _ us hl => match us, hl with | [_, _], _ => rfl
  have F_wanted_at := fun_mk (st := s_wanted_at) l_wanted_at c_wanted_at k_wanted_at
  have b_wanted_at := F_wanted_at.binds (ps := ["wish", "items", "window", "moments"]) fun _ _ _ _ _ _ us hl => match us, hl with | [_, _, _, _], _ => rfl
  have F_Moments_wanted : FunD K "wanted" "Moments.wanted" (defArgs s_Moments_wanted) (defBody s_Moments_wanted) (defScope s_Moments_wanted) [.non] [] f_Moments_wanted _ := ⟨⟨oc_Moments_wanted, od_Moments_wanted, .ref T_Moments_wanted, kV_Moments_wanted, dc_Moments_wanted, pm_Moments_wanted, an_Moments_wanted, cd_Moments_wanted, ct_Moments_wanted, sl_Moments_wanted, rfl, l_Moments_wanted, c_Moments_wanted, .inr ⟨(fun z => nomatch z), T_Moments_wanted, o_Moments_wanted, its_Moments_wanted, n_Moments_wanted, rfl, T1_Moments_wanted, T2_Moments_wanted, T3_Moments_wanted⟩, .inl rfl⟩, k_Moments_wanted⟩
  have b_Moments_wanted := bindsFull (ps := ["self", "items", "moment", "window"]) F_Moments_wanted (fun z => nomatch z) fun _ _ _ _ _ _ _ us its h1 h2 => match us, its, h1, h2 with | [_, _, _, _], [_], _, _ => ⟨_, rfl, rfl⟩
  have b1_Moments_wanted := FunD.binds1 (ps := ["self", "items", "moment", "window"]) F_Moments_wanted 3 0 (fun z => nomatch z) rfl fun _ _ _ _ _ _ _ us its h1 h2 => match us, its, h1, h2 with | [_, _, _], [_], _, _ => ⟨_, rfl, rfl⟩
  have F_l_bag := fun_mk (st := s_l_bag) l_l_bag c_l_bag k_l_bag
  have b_l_bag := F_l_bag.binds (ps := ["_law_script", "_law_at"]) fun _ _ _ _ _ _ us hl => match us, hl with | [_, _], _ => rfl
  have F_l_take := fun_mk (st := s_l_take) l_l_take c_l_take k_l_take
  have b_l_take := F_l_take.binds (ps := ["_law_bag_here", "_law_many"]) fun _ _ _ _ _ _ us hl => match us, hl with | [_, _], _ => rfl
  have F_l_of := fun_mk (st := s_l_of) l_l_of c_l_of k_l_of
  have b_l_of := F_l_of.binds (ps := ["_law_bag_here", "_law_some"]) fun _ _ _ _ _ _ us hl => match us, hl with | [_, _], _ => rfl
  have F_l_edge := fun_mk (st := s_l_edge) l_l_edge c_l_edge k_l_edge
  have b_l_edge := F_l_edge.binds (ps := ["_law_bag_here", "_law_near"]) fun _ _ _ _ _ _ us hl => match us, hl with | [_, _], _ => rfl
  have F_l_span := fun_mk (st := s_l_span) l_l_span c_l_span k_l_span
  have b_l_span := F_l_span.binds (ps := ["_law_bag_here", "_law_near"]) fun _ _ _ _ _ _ us hl => match us, hl with | [_, _], _ => rfl
  have F_l_spans := fun_mk (st := s_l_spans) l_l_spans c_l_spans k_l_spans
  have b_l_spans := F_l_spans.binds (ps := ["_law_bag_here", "_law_most", "_law_near"]) fun _ _ _ _ _ _ us hl => match us, hl with | [_, _, _], _ => rfl
  have F_l_window := fun_mk (st := s_l_window) l_l_window c_l_window k_l_window
  have b_l_window := F_l_window.binds (ps := ["_law_bag_here", "_law_near"]) fun _ _ _ _ _ _ us hl => match us, hl with | [_, _], _ => rfl
  have F_l_in := fun_mk (st := s_l_in) l_l_in c_l_in k_l_in
  have b_l_in := F_l_in.binds (ps := ["_law_pair", "_law_point", "_law_word"]) fun _ _ _ _ _ _ us hl => match us, hl with | [_, _, _], _ => rfl
  have F_l_times := fun_mk (st := s_l_times) l_l_times c_l_times k_l_times
  have b_l_times := F_l_times.binds (ps := ["_law_wish_word", "_law_spans_here", "_law_point", "_law_word"]) fun _ _ _ _ _ _ us hl => match us, hl with | [_, _, _, _], _ => rfl
  have F_l_points := fun_mk (st := s_l_points) l_l_points c_l_points k_l_points
  have b_l_points := F_l_points.binds (ps := ["_law_rows"]) fun _ _ _ _ _ _ us hl => match us, hl with | [_], _ => rfl
  have F_l_events := fun_mk (st := s_l_events) l_l_events c_l_events k_l_events
  have b_l_events := F_l_events.binds (ps := ["_law_bag_here", "_law_most", "_law_near"]) fun _ _ _ _ _ _ us hl => match us, hl with | [_, _, _], _ => rfl
  have F_l_events_sorted := fun_mk (st := s_l_events_sorted) l_l_events_sorted c_l_events_sorted k_l_events_sorted
  have b_l_events_sorted := F_l_events_sorted.binds (ps := ["_law_order", "_law_events_here"]) fun _ _ _ _ _ _ us hl => match us, hl with | [_, _], _ => rfl
  have F_l_is_inside_right := fun_mk (st := s_l_is_inside_right) l_l_is_inside_right c_l_is_inside_right k_l_is_inside_right
  have b_l_is_inside_right := F_l_is_inside_right.binds (ps := ["_law_bag_here"]) fun _ _ _ _ _ _ us hl => match us, hl with | [_], _ => rfl
  have F_law := fun_mk (st := s_law) l_law c_law k_law
  refine ⟨PySem.W.fnOf "law" "law" (defArgs s_law) (defBody s_law) (defScope s_law) .none kV_law dc_law pm_law an_law cd_law ct_law, fun s v => .of_eq rfl, fun bh _ _ => ?_⟩
  have AC : MomC K C := ⟨⟨c_pg, c_hd, c_po, c_sa⟩, c_nH, c_nW, c_nF, c_nE⟩
  have AW : WordsT K mg "TIMES" [.str "some", .str "none", .str "all", .str "one", .str "two", .str "each", .str "inside"] := ⟨WA, PySem.W.mg_of X G w_at, fun _ => .inr ⟨o_W, its_W.toArray, n_W, w_1, w_4, w_2, w_5, by simpa using w_3⟩⟩
  have AF : WordsT K mg "FORMS" [.str "any", .str "full", .str "one", .str "cut"] := ⟨WB, PySem.W.mg_of X G v_at, fun _ => .inr ⟨o_B, its_B.toArray, n_B, v_1, v_4, v_2, v_5, by simpa using v_3⟩⟩
  have R_is_number : Rdy l.prog w K mg bh "is_number" 1 ["value"] (sp_is_number K) f_is_number _ := ⟨ok_is_number B T  F_is_number, PySem.W.mg_of X G a_is_number, k_is_number, b_is_number⟩
  have R_is_edge : Rdy l.prog w K mg bh "is_edge" 2 ["value"] (sp_is_edge K) f_is_edge _ := ⟨ok_is_edge B T R_is_number F_is_edge, PySem.W.mg_of X G a_is_edge, k_is_edge, b_is_edge⟩
  have R_is_pair : Rdy l.prog w K mg bh "is_pair" 3 ["value"] (sp_is_pair K) f_is_pair _ := ⟨ok_is_pair B T R_is_edge F_is_pair, PySem.W.mg_of X G a_is_pair, k_is_pair, b_is_pair⟩
  have R_is_stretch : Rdy l.prog w K mg bh "is_stretch" 4 ["value"] (sp_is_stretch K) f_is_stretch _ := ⟨ok_is_stretch B T R_is_pair F_is_stretch, PySem.W.mg_of X G a_is_stretch, k_is_stretch, b_is_stretch⟩
  have R_is_window : Rdy l.prog w K mg bh "is_window" 4 ["value"] (sp_is_window K) f_is_window _ := ⟨ok_is_window B T R_is_pair F_is_window, PySem.W.mg_of X G a_is_window, k_is_window, b_is_window⟩
  have R_check_ends : Rdy l.prog w K mg bh "check_ends" 1 ["ends"] (sp_check_ends K) f_check_ends _ := ⟨ok_check_ends B T  F_check_ends, PySem.W.mg_of X G a_check_ends, k_check_ends, b_check_ends⟩
  have R_check_stretches : Rdy l.prog w K mg bh "check_stretches" 5 ["spans"] (sp_check_stretches K) f_check_stretches _ := ⟨ok_check_stretches B T R_is_stretch F_check_stretches, PySem.W.mg_of X G a_check_stretches, k_check_stretches, b_check_stretches⟩
  have R_is_empty : RdyD l.prog w K mg bh "is_empty" 2 ["pair", "ends"] [.str "half"] (sp_is_empty K) f_is_empty _ := ⟨ok_is_empty B T R_check_ends F_is_empty, PySem.W.mg_of X G a_is_empty, k_is_empty, b_is_empty, b1_is_empty⟩
  have R_turns : Rdy l.prog w K mg bh "turns" 3 ["pairs", "ends"] (sp_turns K) f_turns _ := ⟨ok_turns B T R_is_empty F_turns, PySem.W.mg_of X G a_turns, k_turns, b_turns⟩
  have R_counts_at : Rdy l.prog w K mg bh "counts_at" 4 ["pairs", "moments", "ends"] (sp_counts_at K) f_counts_at _ := ⟨ok_counts_at B T R_turns F_counts_at, PySem.W.mg_of X G a_counts_at, k_counts_at, b_counts_at⟩
  have R_wanted_times : Rdy l.prog w K mg bh "wanted_times" 1 ["which", "held", "many"] (sp_wanted_times K) f_wanted_times _ := ⟨ok_wanted_times B T  F_wanted_times, PySem.W.mg_of X G a_wanted_times, k_wanted_times, b_wanted_times⟩
  have R_is_moment : Rdy l.prog w K mg bh "is_moment" 2 ["value"] (sp_is_moment K) f_is_moment _ := ⟨ok_is_moment B T R_is_number F_is_moment, PySem.W.mg_of X G a_is_moment, k_is_moment, b_is_moment⟩
  have R_check_moment : Rdy l.prog w K mg bh "check_moment" 3 ["moment"] (sp_check_moment K) f_check_moment _ := ⟨ok_check_moment B T R_is_moment F_check_moment, PySem.W.mg_of X G a_check_moment, k_check_moment, b_check_moment⟩
  have R_is_event : Rdy l.prog w K mg bh "is_event" 2 ["value"] (sp_is_event K) f_is_event _ := ⟨ok_is_event B T R_is_number F_is_event, PySem.W.mg_of X G a_is_event, k_is_event, b_is_event⟩
  have R_check_events : Rdy l.prog w K mg bh "check_events" 3 ["events"] (sp_check_events K) f_check_events _ := ⟨ok_check_events B T R_is_event F_check_events, PySem.W.mg_of X G a_check_events, k_check_events, b_check_events⟩
  have R_insides_at : Rdy l.prog w K mg bh "insides_at" 1 ["events", "moments"] (sp_insides_at K) f_insides_at _ := ⟨ok_insides_at B T  F_insides_at, PySem.W.mg_of X G a_insides_at, k_insides_at, b_insides_at⟩
  have R_check_window : Rdy l.prog w K mg bh "check_window" 5 ["window"] (sp_check_window K) f_check_window _ := ⟨ok_check_window B T R_is_window F_check_window, PySem.W.mg_of X G a_check_window, k_check_window, b_check_window⟩
  have R_check_word : Rdy l.prog w K mg bh "check_word" 1 ["word", "words"] (sp_check_word K) f_check_word _ := ⟨ok_check_word B T  F_check_word, PySem.W.mg_of X G a_check_word, k_check_word, b_check_word⟩
  have MA : RdyMo l.prog w K mg bh "Moments" C 2 ["self", "which", "within", "form", "ends"] [.bl false, .str "one", .str "half"] ["within", "form", "ends"] [.bl false, .str "one"] (sp_Moments_init K C) f_Moments_init _ := ⟨ok_Moments_init B T AC AW AF R_check_word R_check_ends F_Moments_init, ⟨c_mk, a_Moments_init, i_Moments_init, c_kc⟩, PySem.W.mg_of X G c_at, b1_Moments_init, kb_Moments_init.elim fun _ h => ⟨_, h⟩, kc_Moments_init.elim fun _ h => ⟨_, h⟩⟩
  have RU : RdyPr l.prog w K mg bh C "uses_window" 2 (sp_Moments_uses K C) P_Moments_uses_window f_Moments_uses_window _ := ⟨ok_Moments_uses_window B T AC F_Moments_uses_window, ⟨a_Moments_uses_window, g_Moments_uses_window, t_Moments_uses_window, rest_Moments_uses_window, r_Moments_uses_window⟩, b_Moments_uses_window⟩
  have R_check_need : Rdy l.prog w K mg bh "check_need" 4 ["wish", "window"] (sp_check_need K C) f_check_need _ := ⟨ok_check_need B T AC RU F_check_need, PySem.W.mg_of X G a_check_need, k_check_need, b_check_need⟩
  have R_wanted_at : Rdy l.prog w K mg bh "wanted_at" 5 ["wish", "items", "window", "moments"] (sp_wanted_at K C) f_wanted_at _ := ⟨ok_wanted_at B T AC R_insides_at R_counts_at R_wanted_times F_wanted_at, PySem.W.mg_of X G a_wanted_at, k_wanted_at, b_wanted_at⟩
  have MW : RdyMt l.prog w K mg bh C "wanted" 6 ["self", "items", "moment", "window"] [.non] (sp_Moments_wanted K C) f_Moments_wanted _ := ⟨ok_Moments_wanted B T AC R_check_moment R_check_window R_check_need R_check_events R_check_stretches R_wanted_at F_Moments_wanted, ⟨a_Moments_wanted, i_Moments_wanted, k_Moments_wanted⟩, b_Moments_wanted, b1_Moments_wanted⟩
  have R_l_bag : Rdy l.prog w K mg bh "_law_bag" 1 ["_law_script", "_law_at"] (sp_l_bag K) f_l_bag _ := ⟨ok_l_bag B T  F_l_bag, PySem.W.mg_of X G a_l_bag, k_l_bag, b_l_bag⟩
  have R_l_take : Rdy l.prog w K mg bh "_law_take" 1 ["_law_bag_here", "_law_many"] (sp_l_take K) f_l_take _ := ⟨ok_l_take B T  F_l_take, PySem.W.mg_of X G a_l_take, k_l_take, b_l_take⟩
  have R_l_of : Rdy l.prog w K mg bh "_law_of" 2 ["_law_bag_here", "_law_some"] (sp_l_of K) f_l_of _ := ⟨ok_l_of B T R_l_take F_l_of, PySem.W.mg_of X G a_l_of, k_l_of, b_l_of⟩
  have R_l_edge : Rdy l.prog w K mg bh "_law_edge" 3 ["_law_bag_here", "_law_near"] (sp_l_edge K) f_l_edge _ := ⟨ok_l_edge B T R_l_of R_l_take F_l_edge, PySem.W.mg_of X G a_l_edge, k_l_edge, b_l_edge⟩
  have R_l_span : Rdy l.prog w K mg bh "_law_span" 4 ["_law_bag_here", "_law_near"] (sp_l_span K) f_l_span _ := ⟨ok_l_span B T R_l_take R_l_edge F_l_span, PySem.W.mg_of X G a_l_span, k_l_span, b_l_span⟩
  have R_l_spans : Rdy l.prog w K mg bh "_law_spans" 5 ["_law_bag_here", "_law_most", "_law_near"] (sp_l_spans K) f_l_spans _ := ⟨ok_l_spans B T R_l_take R_l_of R_l_span F_l_spans, PySem.W.mg_of X G a_l_spans, k_l_spans, b_l_spans⟩
  have R_l_window : Rdy l.prog w K mg bh "_law_window" 3 ["_law_bag_here", "_law_near"] (sp_l_window K) f_l_window _ := ⟨ok_l_window B T R_l_take R_l_of F_l_window, PySem.W.mg_of X G a_l_window, k_l_window, b_l_window⟩
  have R_l_in : Rdy l.prog w K mg bh "_law_in" 1 ["_law_pair", "_law_point", "_law_word"] (sp_l_in K) f_l_in _ := ⟨ok_l_in B T  F_l_in, PySem.W.mg_of X G a_l_in, k_l_in, b_l_in⟩
  have R_l_times : Rdy l.prog w K mg bh "_law_times" 2 ["_law_wish_word", "_law_spans_here", "_law_point", "_law_word"] (sp_l_times K) f_l_times _ := ⟨ok_l_times B T R_l_in F_l_times, PySem.W.mg_of X G a_l_times, k_l_times, b_l_times⟩
  have R_l_points : Rdy l.prog w K mg bh "_law_points" 1 ["_law_rows"] (sp_l_points K) f_l_points _ := ⟨ok_l_points B T  F_l_points, PySem.W.mg_of X G a_l_points, k_l_points, b_l_points⟩
  have R_l_events : Rdy l.prog w K mg bh "_law_events" 4 ["_law_bag_here", "_law_most", "_law_near"] (sp_l_events K) f_l_events _ := ⟨ok_l_events B T R_l_take R_l_of R_l_edge F_l_events, PySem.W.mg_of X G a_l_events, k_l_events, b_l_events⟩
  have R_l_events_sorted : Rdy l.prog w K mg bh "_law_events_sorted" 1 ["_law_order", "_law_events_here"] (sp_l_events_sorted K) f_l_events_sorted _ := ⟨ok_l_events_sorted B T  F_l_events_sorted, PySem.W.mg_of X G a_l_events_sorted, k_l_events_sorted, b_l_events_sorted⟩
  have R_l_is_inside_right : RdyG l.prog w K mg bh "_law_is_inside_right" 9 ["_law_bag_here"] (sp_l_is_inside_right K) f_l_is_inside_right _ := ⟨ok_l_is_inside_right B T AC MA MW R_l_of R_l_events_sorted R_l_window R_l_points R_l_take R_l_events R_l_in F_l_is_inside_right, PySem.W.mg_of X G a_l_is_inside_right, k_l_is_inside_right, b_l_is_inside_right⟩
  exact ok_law B T AC MA MW R_l_bag R_l_points R_l_spans R_l_window R_l_is_inside_right R_l_times R_l_of R_l_take R_l_in F_law
end
end Spk
open PySem PySem.W PyProof.Rows
set_option maxHeartbeats 0 in
theorem PySem.Challenge.cw_spanloops_k31_times_wanted_holds : PySem.Challenge.rw_spanloops_k31_times_wanted.Holds := by
  w_on; o_law; k_head; (case hw => w_witness2)
  k_fill
  refine Spk.walkG (l := PySem.Challenge.rw_spanloops_k31_times_wanted) (n := 63) (k := 12) (x := "_law_script") (sp := fun w => Spk.sp_law _) rfl (by decide) rfl ⟨rfl, by decide, by decide⟩ (fun w h Y => PySem.W.kIn_of Y) ?F (fun _ _ a ns hl _ hS => ⟨a, ns, rfl, hS, hl, fun _ => rfl⟩)
  case F =>
    intro w mg fa h KX G hmg
    refine' Spk.all_mk KX G hmg ?z_abs ?z_bool ?z_enumerate ?z_int ?z_isinstance ?z_len ?z_list ?z_max ?z_min ?z_range ?z_repr ?z_sorted ?z_tuple ?z_zip ?c_FIRST ?c_LAST ?c_FAR ?e_g ?e_rd ?e_ga ?e_1 ?e_2 ?c_at ?c_pg ?c_hd ?c_po ?c_sa ?c_mk ?c_kc ?c_nH ?c_nW ?c_nF ?c_nE ?w_at ?w_1 ?w_2 ?w_3 ?w_4 ?w_5 ?v_at ?v_1 ?v_2 ?v_3 ?v_4 ?v_5 ?a_is_number ?l_is_number ?c_is_number ?k_is_number ?a_is_edge ?l_is_edge ?c_is_edge ?k_is_edge ?a_is_pair ?l_is_pair ?c_is_pair ?k_is_pair ?a_is_stretch ?l_is_stretch ?c_is_stretch ?k_is_stretch ?a_is_window ?l_is_window ?c_is_window ?k_is_window ?a_check_ends ?l_check_ends ?c_check_ends ?k_check_ends ?a_check_stretches ?l_check_stretches ?c_check_stretches ?k_check_stretches ?a_is_empty ?l_is_empty ?c_is_empty ?k_is_empty ?T1_is_empty ?T2_is_empty ?T3_is_empty ?a_turns ?l_turns ?c_turns ?k_turns ?a_counts_at ?l_counts_at ?c_counts_at ?k_counts_at ?a_wanted_times ?l_wanted_times ?c_wanted_times ?k_wanted_times ?a_is_moment ?l_is_moment ?c_is_moment ?k_is_moment ?a_check_moment ?l_check_moment ?c_check_moment ?k_check_moment ?a_is_event ?l_is_event ?c_is_event ?k_is_event ?a_check_events ?l_check_events ?c_check_events ?k_check_events ?a_insides_at ?l_insides_at ?c_insides_at ?k_insides_at ?a_check_window ?l_check_window ?c_check_window ?k_check_window ?a_check_word ?l_check_word ?c_check_word ?k_check_word ?a_Moments_init ?l_Moments_init ?c_Moments_init ?k_Moments_init ?i_Moments_init ?n0_Moments_init ?n1_Moments_init ?n2_Moments_init ?a_Moments_uses_window ?g_Moments_uses_window ?t_Moments_uses_window ?r_Moments_uses_window ?l_Moments_uses_window ?c_Moments_uses_window ?k_Moments_uses_window ?a_check_need ?l_check_need ?c_check_need ?k_check_need ?a_wanted_at ?l_wanted_at ?c_wanted_at ?k_wanted_at ?a_Moments_wanted ?l_Moments_wanted ?c_Moments_wanted ?k_Moments_wanted ?i_Moments_wanted ?T1_Moments_wanted ?T2_Moments_wanted ?T3_Moments_wanted ?a_l_bag ?l_l_bag ?c_l_bag ?k_l_bag ?a_l_take ?l_l_take ?c_l_take ?k_l_take ?a_l_of ?l_l_of ?c_l_of ?k_l_of ?a_l_edge ?l_l_edge ?c_l_edge ?k_l_edge ?a_l_span ?l_l_span ?c_l_span ?k_l_span ?a_l_spans ?l_l_spans ?c_l_spans ?k_l_spans ?a_l_window ?l_l_window ?c_l_window ?k_l_window ?a_l_in ?l_l_in ?c_l_in ?k_l_in ?a_l_times ?l_l_times ?c_l_times ?k_l_times ?a_l_points ?l_l_points ?c_l_points ?k_l_points ?a_l_events ?l_l_events ?c_l_events ?k_l_events ?a_l_events_sorted ?l_l_events_sorted ?c_l_events_sorted ?k_l_events_sorted ?a_l_is_inside_right ?l_l_is_inside_right ?c_l_is_inside_right ?k_l_is_inside_right ?a_law ?l_law ?c_law ?k_law
    (case z_abs => k_is)
    (case z_bool => k_is)
    (case z_enumerate => k_is)
    (case z_int => k_is)
    (case z_isinstance => k_is)
    (case z_len => k_is)
    (case z_list => k_is)
    (case z_max => k_is)
    (case z_min => k_is)
    (case z_range => k_is)
    (case z_repr => k_is)
    (case z_sorted => k_is)
    (case z_tuple => k_is)
    (case z_zip => k_is)
    (case c_FIRST => k_is)
    (case c_LAST => k_is)
    (case c_FAR => k_is)
    (case e_g => k_is)
    (case e_rd => k_is)
    (case e_ga => k_is)
    (case e_1 => k_is)
    (case e_2 => k_is)
    (case c_at => k_is)
    (case c_pg => k_is)
    (case c_hd => k_is)
    (case c_po => k_is)
    (case c_sa => k_is)
    (case c_mk => k_is)
    (case c_kc => k_is)
    (case c_nH => k_is)
    (case c_nW => k_is)
    (case c_nF => k_is)
    (case c_nE => k_is)
    (case w_at => k_is)
    (case w_1 => k_is)
    (case w_2 => first | rfl | k_is)
    (case w_3 => exact .cons ⟨_, rfl⟩ (.cons ⟨_, rfl⟩ (.cons ⟨_, rfl⟩ (.cons ⟨_, rfl⟩ (.cons ⟨_, rfl⟩ (.cons ⟨_, rfl⟩ (.cons ⟨_, rfl⟩ (.nil))))))))
    (case w_4 => rfl)
    (case w_5 => decide +kernel)
    (case v_at => k_is)
    (case v_1 => k_is)
    (case v_2 => first | rfl | k_is)
    (case v_3 => exact .cons ⟨_, rfl⟩ (.cons ⟨_, rfl⟩ (.cons ⟨_, rfl⟩ (.cons ⟨_, rfl⟩ (.nil)))))
    (case v_4 => rfl)
    (case v_5 => decide +kernel)
    (case a_is_number => k_is)
    (case l_is_number => k_is)
    (case c_is_number => k_is)
    (case k_is_number => k_is)
    (case a_is_edge => k_is)
    (case l_is_edge => k_is)
    (case c_is_edge => k_is)
    (case k_is_edge => k_is)
    (case a_is_pair => k_is)
    (case l_is_pair => k_is)
    (case c_is_pair => k_is)
    (case k_is_pair => k_is)
    (case a_is_stretch => k_is)
    (case l_is_stretch => k_is)
    (case c_is_stretch => k_is)
    (case k_is_stretch => k_is)
    (case a_is_window => k_is)
    (case l_is_window => k_is)
    (case c_is_window => k_is)
    (case k_is_window => k_is)
    (case a_check_ends => k_is)
    (case l_check_ends => k_is)
    (case c_check_ends => k_is)
    (case k_check_ends => k_is)
    (case a_check_stretches => k_is)
    (case l_check_stretches => k_is)
    (case c_check_stretches => k_is)
    (case k_check_stretches => k_is)
    (case a_is_empty => k_is)
    (case l_is_empty => k_is)
    (case c_is_empty => k_is)
    (case k_is_empty => k_is)
    (case T1_is_empty => k_is)
    (case T2_is_empty => first | rfl | k_is)
    (case T3_is_empty => exact .cons ⟨_, rfl⟩ .nil)
    (case a_turns => k_is)
    (case l_turns => k_is)
    (case c_turns => k_is)
    (case k_turns => k_is)
    (case a_counts_at => k_is)
    (case l_counts_at => k_is)
    (case c_counts_at => k_is)
    (case k_counts_at => k_is)
    (case a_wanted_times => k_is)
    (case l_wanted_times => k_is)
    (case c_wanted_times => k_is)
    (case k_wanted_times => k_is)
    (case a_is_moment => k_is)
    (case l_is_moment => k_is)
    (case c_is_moment => k_is)
    (case k_is_moment => k_is)
    (case a_check_moment => k_is)
    (case l_check_moment => k_is)
    (case c_check_moment => k_is)
    (case k_check_moment => k_is)
    (case a_is_event => k_is)
    (case l_is_event => k_is)
    (case c_is_event => k_is)
    (case k_is_event => k_is)
    (case a_check_events => k_is)
    (case l_check_events => k_is)
    (case c_check_events => k_is)
    (case k_check_events => k_is)
    (case a_insides_at => k_is)
    (case l_insides_at => k_is)
    (case c_insides_at => k_is)
    (case k_insides_at => k_is)
    (case a_check_window => k_is)
    (case l_check_window => k_is)
    (case c_check_window => k_is)
    (case k_check_window => k_is)
    (case a_check_word => k_is)
    (case l_check_word => k_is)
    (case c_check_word => k_is)
    (case k_check_word => k_is)
    (case a_Moments_init => k_is)
    (case l_Moments_init => k_is)
    (case c_Moments_init => k_is)
    (case k_Moments_init => k_is)
    (case i_Moments_init => k_is)
    (case n0_Moments_init => k_is)
    (case n1_Moments_init => k_is)
    (case n2_Moments_init => k_is)
    (case a_Moments_uses_window => k_is)
    (case g_Moments_uses_window => k_is)
    (case t_Moments_uses_window => k_is)
    (case r_Moments_uses_window => k_is)
    (case l_Moments_uses_window => k_is)
    (case c_Moments_uses_window => k_is)
    (case k_Moments_uses_window => k_is)
    (case a_check_need => k_is)
    (case l_check_need => k_is)
    (case c_check_need => k_is)
    (case k_check_need => k_is)
    (case a_wanted_at => k_is)
    (case l_wanted_at => k_is)
    (case c_wanted_at => k_is)
    (case k_wanted_at => k_is)
    (case a_Moments_wanted => k_is)
    (case l_Moments_wanted => k_is)
    (case c_Moments_wanted => k_is)
    (case k_Moments_wanted => k_is)
    (case i_Moments_wanted => k_is)
    (case T1_Moments_wanted => k_is)
    (case T2_Moments_wanted => first | rfl | k_is)
    (case T3_Moments_wanted => exact .cons rfl .nil)
    (case a_l_bag => k_is)
    (case l_l_bag => k_is)
    (case c_l_bag => k_is)
    (case k_l_bag => k_is)
    (case a_l_take => k_is)
    (case l_l_take => k_is)
    (case c_l_take => k_is)
    (case k_l_take => k_is)
    (case a_l_of => k_is)
    (case l_l_of => k_is)
    (case c_l_of => k_is)
    (case k_l_of => k_is)
    (case a_l_edge => k_is)
    (case l_l_edge => k_is)
    (case c_l_edge => k_is)
    (case k_l_edge => k_is)
    (case a_l_span => k_is)
    (case l_l_span => k_is)
    (case c_l_span => k_is)
    (case k_l_span => k_is)
    (case a_l_spans => k_is)
    (case l_l_spans => k_is)
    (case c_l_spans => k_is)
    (case k_l_spans => k_is)
    (case a_l_window => k_is)
    (case l_l_window => k_is)
    (case c_l_window => k_is)
    (case k_l_window => k_is)
    (case a_l_in => k_is)
    (case l_l_in => k_is)
    (case c_l_in => k_is)
    (case k_l_in => k_is)
    (case a_l_times => k_is)
    (case l_l_times => k_is)
    (case c_l_times => k_is)
    (case k_l_times => k_is)
    (case a_l_points => k_is)
    (case l_l_points => k_is)
    (case c_l_points => k_is)
    (case k_l_points => k_is)
    (case a_l_events => k_is)
    (case l_l_events => k_is)
    (case c_l_events => k_is)
    (case k_l_events => k_is)
    (case a_l_events_sorted => k_is)
    (case l_l_events_sorted => k_is)
    (case c_l_events_sorted => k_is)
    (case k_l_events_sorted => k_is)
    (case a_l_is_inside_right => k_is)
    (case l_l_is_inside_right => k_is)
    (case c_l_is_inside_right => k_is)
    (case k_l_is_inside_right => k_is)
    (case a_law => k_is)
    (case l_law => k_is)
    (case c_law => k_is)
    (case k_law => k_is)
