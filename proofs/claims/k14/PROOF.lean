import PyProof.Rows.All
import Wide.All
import OpenK.AllK
import Wide.FinOn
import PySem.Challenge.RW_spanloops_k14_next_moments
import HandS.ForMost
import HandS.Wide
import HandS.Walk
import HandS.SortRule
import HandS.Defaults
import HandS.IsInst
import HandS.ClsMeth
import HandS.TupLe
import KE.GoesMore
import HandS.MakeKwOnly
import HandS.Property
import KE.KRevSl
import HandS.SortInts
import HandS.More
import HandS.Strs
import HandS.SetFor
import HandS.Rev
import HandS.RevTup
import KE.KDictZip
import KE.KTurns
import HandS.ForExc
import HandS.TryMany
import HandS.ExcInit
import HandS.ExcField
import HandS.ExcIs
import HandS.CallSlots
import KE.KExcIs
import HandS.Deep
import HandS.Star
set_option Elab.async false
set_option linter.all false
set_option maxRecDepth 100000
set_option maxHeartbeats 4000000
namespace Spk
/-! ### pairs of edges, the union as a function on lists of pairs -/
abbrev Pr := Int × Int
def ple (p q : Pr) : Prop := p.1 < q.1 ∨ (p.1 = q.1 ∧ p.2 ≤ q.2)
instance (p q : Pr) : Decidable (ple p q) := inferInstanceAs (Decidable (_ ∨ _))
theorem ple_trans {p q r : Pr} (a : ple p q) (b : ple q r) : ple p r := by unfold ple at *; omega
theorem ple_total (p q : Pr) : ple p q ∨ ple q p := by unfold ple; omega
theorem ple_anti {p q : Pr} (a : ple p q) (b : ple q p) : p = q := by
  obtain ⟨x, y⟩ := p; obtain ⟨z, w⟩ := q
  simp only [ple] at a b
  have : x = z := by omega
  have : y = w := by omega
  subst x; subst y; rfl
theorem ple_refl (p : Pr) : ple p p := by unfold ple; omega
def ins (p : Pr) : List Pr → List Pr
  | [] => [p]
  | q :: r => if ple p q then p :: q :: r else q :: ins p r
def srt : List Pr → List Pr
  | [] => []
  | p :: r => ins p (srt r)
theorem ins_perm (p : Pr) : ∀ l, (ins p l).Perm (p :: l)
  | [] => .refl _
  | q :: r => by
    unfold ins
    split
    · exact .refl _
    · exact ((ins_perm p r).cons q).trans (List.Perm.swap p q r)
theorem srt_perm : ∀ l, (srt l).Perm l
  | [] => .refl _
  | p :: r => (ins_perm p _).trans ((srt_perm r).cons p)
theorem ins_sorted (p : Pr) : ∀ l, l.Pairwise ple → (ins p l).Pairwise ple
  | [], _ => by simp [ins]
  | q :: r, h => by
    unfold ins
    have hq := List.pairwise_cons.mp h
    split
    · rename_i c
      refine List.pairwise_cons.mpr ⟨fun y hy => ?_, h⟩
      rcases List.mem_cons.mp hy with e | hy
      · exact e ▸ c
      · exact ple_trans c (hq.1 y hy)
    · rename_i c
      refine List.pairwise_cons.mpr ⟨fun y hy => ?_, ins_sorted p r hq.2⟩
      have := (ins_perm p r).mem_iff.mp hy
      rcases List.mem_cons.mp this with e | hy
      · rw [e]; exact (ple_total p q).resolve_left c
      · exact hq.1 y hy
theorem srt_sorted : ∀ l, (srt l).Pairwise ple
  | [] => List.Pairwise.nil
  | p :: r => ins_sorted p _ (srt_sorted r)
theorem sorted_uniq : ∀ {l m : List Pr}, l.Pairwise ple → m.Pairwise ple → l.Perm m → l = m
  | [], m, _, _, h => (List.Perm.nil_eq h)
  | x :: l, [], _, _, h => absurd h.length_eq (by simp)
  | x :: l, y :: m, hl, hm, h => by
    have h1 := List.pairwise_cons.mp hl
    have h2 := List.pairwise_cons.mp hm
    have a : ple x y := by
      rcases List.mem_cons.mp (h.mem_iff.mpr (List.mem_cons_self (a := y) (l := m))) with e | q
      · rw [e]; exact ple_refl x
      · exact h1.1 y q
    have b : ple y x := by
      rcases List.mem_cons.mp (h.mem_iff.mp (List.mem_cons_self (a := x) (l := l))) with e | q
      · rw [e]; exact ple_refl y
      · exact h2.1 x q
    have e := ple_anti a b
    subst e
    rw [sorted_uniq h1.2 h2.2 h.cons_inv]
/-- one turn of join_sorted's loop -/
def stepJ (s : List Pr × Pr) (p : Pr) : List Pr × Pr :=
  if s.2.2 < p.1 then (s.1 ++ [s.2], p) else (s.1, (s.2.1, if s.2.2 < p.2 then p.2 else s.2.2))
def joinF : List Pr → List Pr
  | [] => []
  | p :: r => let s := (p :: r).foldl stepJ ([], p); s.1 ++ [s.2]
/-- the same by recursion -/
def joinG (c : Pr) : List Pr → List Pr
  | [] => [c]
  | p :: r => if c.2 < p.1 then c :: joinG p r else joinG (c.1, if c.2 < p.2 then p.2 else c.2) r
theorem fold_joinG : ∀ (l : List Pr) (acc : List Pr) (c : Pr), (let s := l.foldl stepJ (acc, c); s.1 ++ [s.2]) = acc ++ joinG c l
  | [], acc, c => rfl
  | p :: r, acc, c => by
    simp only [List.foldl_cons, joinG, stepJ]
    split
    · have := fold_joinG r (acc ++ [c]) p
      simp only at this
      rw [this, List.append_assoc]; rfl
    · have := fold_joinG r acc (c.1, if c.2 < p.2 then p.2 else c.2)
      simp only at this
      rw [this]
def joinM : List Pr → List Pr
  | [] => []
  | p :: r => joinG p (p :: r)
theorem joinF_eq : ∀ l, joinF l = joinM l
  | [] => rfl
  | p :: r => by
    have := fold_joinG (p :: r) [] p
    simp only [List.nil_append] at this
    exact this
def gapd : List Pr → Bool
  | [] => true
  | [_] => true
  | p :: q :: r => decide (p.2 < q.1) && gapd (q :: r)
/-- z: whether ends are read as shut -/
def emp (z : Bool) (p : Pr) : Bool := if z then decide (p.2 < p.1) else decide (p.2 ≤ p.1)
def unionM (z : Bool) (l : List Pr) : List Pr := joinM (srt (l.filter fun p => !emp z p))
def oneF (z : Bool) (l : List Pr) : Bool := l.all (fun p => !emp z p) && gapd l
theorem joinG_head : ∀ (l : List Pr) (c : Pr), ∃ h r, joinG c l = (c.1, h) :: r
  | [], c => ⟨c.2, [], rfl⟩
  | p :: r, c => by
    unfold joinG
    split
    · exact ⟨c.2, _, rfl⟩
    · exact joinG_head r (c.1, if c.2 < p.2 then p.2 else c.2)
theorem joinG_gapd : ∀ (l : List Pr) (c : Pr), gapd (joinG c l) = true
  | [], c => rfl
  | p :: r, c => by
    unfold joinG
    split
    · rename_i h
      obtain ⟨hh, rr, e⟩ := joinG_head r p
      have ih := joinG_gapd r p
      rw [e] at ih ⊢
      unfold gapd
      rw [ih, decide_eq_true (by exact h)]; rfl
    · exact joinG_gapd r _
theorem joinG_full {z : Bool} : ∀ (l : List Pr) (c : Pr), emp z c = false → (∀ p ∈ l, emp z p = false) → ∀ p ∈ joinG c l, emp z p = false
  | [], c, hc, _, p, hp => by
    rw [joinG] at hp
    obtain rfl : p = c := by simpa using hp
    exact hc
  | q :: r, c, hc, hl, p, hp => by
    unfold joinG at hp
    split at hp
    · rcases List.mem_cons.mp hp with e | hp
      · exact e ▸ hc
      · exact joinG_full r q (hl q (by simp)) (fun x hx => hl x (by simp [hx])) p hp
    · refine joinG_full r _ ?_ (fun x hx => hl x (by simp [hx])) p hp
      unfold emp at hc ⊢
      cases z <;> simp at hc ⊢ <;> split <;> omega
theorem joinM_one {z : Bool} {l : List Pr} (h : ∀ p ∈ l, emp z p = false) : oneF z (joinM l) = true := by
  cases l with
  | nil => rfl
  | cons p r =>
    unfold oneF joinM
    rw [joinG_gapd, Bool.and_true, List.all_eq_true]
    intro q hq
    rw [joinG_full (z := z) (p :: r) p (h p (by simp)) h q hq]; rfl
theorem joinG_id : ∀ (l : List Pr) (c : Pr), gapd (c :: l) = true → joinG c l = c :: l
  | [], c, _ => rfl
  | p :: r, c, h => by
    unfold gapd at h
    rw [Bool.and_eq_true, decide_eq_true_eq] at h
    unfold joinG
    rw [if_pos h.1, joinG_id r p h.2]
theorem joinM_id {l : List Pr} (h : gapd l = true) (hs : ∀ p ∈ l, p.1 ≤ p.2) : joinM l = l := by
  cases l with
  | nil => rfl
  | cons p r =>
    have : p.1 ≤ p.2 := hs p (by simp)
    show joinG p (p :: r) = p :: r
    unfold joinG
    rw [if_neg (show ¬ p.2 < p.1 by omega), if_neg (show ¬ p.2 < p.2 by omega)]
    exact joinG_id r p h
theorem gapd_tail {p : Pr} {r : List Pr} (h : gapd (p :: r) = true) : gapd r = true := by
  cases r with
  | nil => rfl
  | cons q r => unfold gapd at h; rw [Bool.and_eq_true] at h; exact h.2
theorem gapd_lt : ∀ {p : Pr} {r : List Pr}, gapd (p :: r) = true → (∀ q ∈ r, q.1 ≤ q.2) → ∀ q ∈ r, p.2 < q.1
  | p, [], _, _, q, hq => by simp at hq
  | p, q :: r, h, hs, x, hx => by
    unfold gapd at h
    rw [Bool.and_eq_true, decide_eq_true_eq] at h
    rcases List.mem_cons.mp hx with e | hx
    · exact e ▸ h.1
    · have := gapd_lt h.2 (fun y hy => hs y (by simp [hy])) x hx
      have := hs q (by simp)
      omega
theorem gapd_sorted : ∀ {l : List Pr}, gapd l = true → (∀ q ∈ l, q.1 ≤ q.2) → l.Pairwise ple
  | [], _, _ => .nil
  | p :: r, h, hs => List.pairwise_cons.mpr ⟨fun q hq => by
      have := gapd_lt h (fun y hy => hs y (by simp [hy])) q hq
      have := hs p (by simp)
      exact .inl (by omega), gapd_sorted (gapd_tail h) fun y hy => hs y (by simp [hy])⟩
/-- the union leaves a list as it is just where the list is in one form -/
theorem union_fix {z : Bool} {l : List Pr} (hs : ∀ p ∈ l, p.1 ≤ p.2) : unionM z l = l ↔ oneF z l = true := by
  constructor
  · intro h
    rw [← h]
    unfold unionM
    refine joinM_one fun p hp => ?_
    have := (srt_perm _).mem_iff.mp hp
    have := (List.mem_filter.mp this).2
    simpa using this
  · intro h
    unfold oneF at h
    rw [Bool.and_eq_true, List.all_eq_true] at h
    unfold unionM
    have e1 : l.filter (fun p => !emp z p) = l := List.filter_eq_self.mpr h.1
    have e2 : srt l = l := sorted_uniq (srt_sorted l) (gapd_sorted h.2 hs) (srt_perm l)
    rw [e1, e2, joinM_id h.2 hs]
end Spk

namespace Spk
/-! ### what a list of pairs covers, on a doubled line: (b, e) covers 2b .. 2e - 1, and 2e too if ends are shut -/
def covP (z : Bool) (p : Pr) (m : Int) : Prop := 2 * p.1 ≤ m ∧ m < 2 * p.2 + (if z then 1 else 0)
def cov (z : Bool) (l : List Pr) (m : Int) : Prop := ∃ p ∈ l, covP z p m
theorem cov_nil {z : Bool} {m : Int} : ¬ cov z [] m := fun ⟨_, h, _⟩ => by simp at h
theorem cov_cons {z : Bool} {p : Pr} {l : List Pr} {m : Int} : cov z (p :: l) m ↔ covP z p m ∨ cov z l m := by
  unfold cov; simp
theorem cov_app {z : Bool} {l k : List Pr} {m : Int} : cov z (l ++ k) m ↔ cov z l m ∨ cov z k m := by
  induction l with
  | nil => simp [cov_nil]
  | cons p r ih => rw [List.cons_append, cov_cons, cov_cons, ih, or_assoc]
theorem cov_perm {z : Bool} {l k : List Pr} (h : l.Perm k) {m : Int} : cov z l m ↔ cov z k m :=
  ⟨fun ⟨p, hp, c⟩ => ⟨p, h.mem_iff.mp hp, c⟩, fun ⟨p, hp, c⟩ => ⟨p, h.mem_iff.mpr hp, c⟩⟩
theorem emp_cov {z : Bool} {p : Pr} (h : emp z p = true) (m : Int) : ¬ covP z p m := by
  unfold emp at h; unfold covP
  cases z <;> simp at h ⊢ <;> omega
theorem full_cov {z : Bool} {p : Pr} (h : emp z p = false) : covP z p (2 * p.1) := by
  unfold emp at h; unfold covP
  cases z <;> simp at h ⊢ <;> omega
theorem cov_filter {z : Bool} {l : List Pr} {m : Int} : cov z (l.filter fun p => !emp z p) m ↔ cov z l m := by
  constructor
  · rintro ⟨p, hp, c⟩
    exact ⟨p, (List.mem_filter.mp hp).1, c⟩
  · rintro ⟨p, hp, c⟩
    refine ⟨p, List.mem_filter.mpr ⟨hp, ?_⟩, c⟩
    cases e : emp z p with
    | true => exact absurd c (emp_cov e m)
    | false => rfl
theorem cov_merge {z : Bool} {c p : Pr} (h1 : c.1 ≤ p.1) (h2 : p.1 ≤ c.2) {m : Int} : covP z (c.1, if c.2 < p.2 then p.2 else c.2) m ↔ covP z c m ∨ covP z p m := by
  unfold covP
  cases z <;> simp <;> split <;> omega
theorem cov_joinG {z : Bool} : ∀ (l : List Pr) (c : Pr), (∀ p ∈ l, c.1 ≤ p.1) → l.Pairwise ple → ∀ m, cov z (joinG c l) m ↔ covP z c m ∨ cov z l m
  | [], c, _, _, m => by simp [joinG, cov_cons, cov_nil]
  | p :: r, c, h, hs, m => by
    have hs' := List.pairwise_cons.mp hs
    have hle : ∀ q ∈ r, p.1 ≤ q.1 := fun q hq => by have := hs'.1 q hq; unfold ple at this; omega
    unfold joinG
    split
    · rw [cov_cons, cov_joinG r p hle hs'.2 m, cov_cons]
    · rename_i hn
      rw [cov_joinG r (c.1, if c.2 < p.2 then p.2 else c.2) (fun q hq => h q (by simp [hq])) hs'.2 m, cov_merge (h p (by simp)) (by omega), cov_cons, or_assoc]
theorem cov_joinM {z : Bool} {l : List Pr} (hs : l.Pairwise ple) (m : Int) : cov z (joinM l) m ↔ cov z l m := by
  cases l with
  | nil => rfl
  | cons p r =>
    have hs' := List.pairwise_cons.mp hs
    have hle : ∀ q ∈ p :: r, p.1 ≤ q.1 := fun q hq => by
      rcases List.mem_cons.mp hq with e | hq
      · rw [e]; exact Int.le_refl _
      · have := hs'.1 q hq; unfold ple at this; omega
    show cov z (joinG p (p :: r)) m ↔ _
    rw [cov_joinG (p :: r) p hle hs m, cov_cons]
    exact ⟨fun h => h.elim Or.inl id, Or.inr⟩
/-- the union covers what the list covers -/
theorem cov_union (z : Bool) (l : List Pr) (m : Int) : cov z (unionM z l) m ↔ cov z l m := by
  unfold unionM
  rw [cov_joinM (srt_sorted _), cov_perm (srt_perm _), cov_filter]
theorem union_one (z : Bool) (l : List Pr) : oneF z (unionM z l) = true := by
  unfold unionM
  refine joinM_one fun p hp => ?_
  have := (List.mem_filter.mp ((srt_perm _).mem_iff.mp hp)).2
  simpa using this
theorem oneF_cons {z : Bool} {p : Pr} {l : List Pr} (h : oneF z (p :: l) = true) : emp z p = false ∧ oneF z l = true ∧ gapd (p :: l) = true := by
  unfold oneF at h ⊢
  simp only [List.all_cons, Bool.and_eq_true] at h
  exact ⟨by simpa using h.1.1, by rw [Bool.and_eq_true]; exact ⟨h.1.2, gapd_tail h.2⟩, h.2⟩
theorem emp_le {z : Bool} {p : Pr} (h : emp z p = false) : p.1 ≤ p.2 := by
  unfold emp at h
  cases z <;> simp at h <;> omega
theorem oneF_le {z : Bool} {l : List Pr} (h : oneF z l = true) : ∀ q ∈ l, q.1 ≤ q.2 := fun q hq => by
  unfold oneF at h
  rw [Bool.and_eq_true, List.all_eq_true] at h
  exact emp_le (z := z) (by simpa using h.1 q hq)
/-- what stands behind the first pair of a list in one form lies beyond it -/
theorem cov_beyond {z : Bool} {p : Pr} {l : List Pr} (h : oneF z (p :: l) = true) {m : Int} (c : cov z l m) : 2 * p.2 + 1 < m := by
  obtain ⟨q, hq, c1, c2⟩ := c
  obtain ⟨_, h2, h3⟩ := oneF_cons h
  have := gapd_lt h3 (oneF_le h2) q hq
  omega
/-- a list in one form is told by what it covers -/
theorem one_uniq {z : Bool} : ∀ {l k : List Pr}, oneF z l = true → oneF z k = true → (∀ m, cov z l m ↔ cov z k m) → l = k
  | [], [], _, _, _ => rfl
  | [], q :: k, _, hk, h => absurd ((h (2 * q.1)).mpr (cov_cons.mpr (.inl (full_cov (oneF_cons hk).1)))) cov_nil
  | p :: l, [], hl, _, h => absurd ((h (2 * p.1)).mp (cov_cons.mpr (.inl (full_cov (oneF_cons hl).1)))) cov_nil
  | p :: l, q :: k, hl, hk, h => by
    obtain ⟨p1, p2, p3⟩ := oneF_cons hl
    obtain ⟨q1, q2, q3⟩ := oneF_cons hk
    have lp := emp_le p1
    have lq := emp_le q1
    have at_ : ∀ {p q : Pr} {l k : List Pr}, oneF z (p :: l) = true → oneF z (q :: k) = true → (∀ m, cov z (p :: l) m ↔ cov z (q :: k) m) → q.1 ≤ p.1 := by
      intro p q l k hl hk h
      obtain ⟨p1, _, _⟩ := oneF_cons hl
      obtain ⟨q1, _, _⟩ := oneF_cons hk
      have lq := emp_le q1
      rcases cov_cons.mp ((h (2 * p.1)).mp (cov_cons.mpr (.inl (full_cov p1)))) with c | c
      · have := c.1; omega
      · have := cov_beyond hk c; omega
    have e1 : p.1 = q.1 := by
      have a := at_ hl hk h
      have b := at_ hk hl fun m => (h m).symm
      omega
    have en : ∀ {p q : Pr} {l k : List Pr}, oneF z (p :: l) = true → oneF z (q :: k) = true → (∀ m, cov z (p :: l) m ↔ cov z (q :: k) m) → p.1 = q.1 → q.2 ≤ p.2 := by
      intro p q l k hl hk h e
      obtain ⟨p1, _, _⟩ := oneF_cons hl
      obtain ⟨q1, _, _⟩ := oneF_cons hk
      have lp := emp_le p1
      refine Classical.byContradiction fun hc => ?_
      have hx : cov z (q :: k) (2 * p.2 + 1) := cov_cons.mpr (.inl ⟨by omega, by split <;> omega⟩)
      rcases cov_cons.mp ((h _).mpr hx) with c | c
      · have := c.2
        cases z <;> simp at this
        omega
      · have := cov_beyond hl c; omega
    have e2 : p.2 = q.2 := by
      have a := en hl hk h e1
      have b := en hk hl (fun m => (h m).symm) e1.symm
      omega
    have e : p = q := Prod.ext e1 e2
    subst e
    rw [one_uniq p2 q2 fun m => ?_]
    constructor
    · intro c
      rcases cov_cons.mp ((h m).mp (cov_cons.mpr (.inr c))) with d | d
      · have := cov_beyond hl c
        have := d.2
        cases z <;> simp at this <;> omega
      · exact d
    · intro c
      rcases cov_cons.mp ((h m).mpr (cov_cons.mpr (.inr c))) with d | d
      · have := cov_beyond hk c
        have := d.2
        cases z <;> simp at this <;> omega
      · exact d
/-- two lists have the same union just if they cover the same -/
theorem union_eq_iff {z : Bool} {l k : List Pr} : unionM z l = unionM z k ↔ ∀ m, cov z l m ↔ cov z k m := by
  constructor
  · intro h m
    rw [← cov_union z l m, h, cov_union z k m]
  · intro h
    exact one_uniq (union_one z l) (union_one z k) fun m => by rw [cov_union, cov_union, h m]
/-- the union is a list in one form that covers the same -/
theorem union_is {z : Bool} {l k : List Pr} (hk : oneF z k = true) (h : ∀ m, cov z l m ↔ cov z k m) : unionM z l = k :=
  one_uniq (union_one z l) hk fun m => by rw [cov_union, h m]
end Spk
namespace Spk
theorem covP_cut {z : Bool} {b c e : Int} (h1 : b ≤ c) (h2 : c ≤ e) (m : Int) : covP z (c, e) m ∨ covP z (b, c) m ↔ covP z (b, e) m := by
  unfold covP
  cases z <;> simp <;> omega
theorem covP_sub {z : Bool} {b c d e : Int} (h1 : b ≤ c) (h2 : d ≤ e) {m : Int} (h : covP z (c, d) m) : covP z (b, e) m := by
  unfold covP at *
  cases z <;> simp at h ⊢ <;> omega
theorem cov_mix {z : Bool} (us ws : List Pr) (n : Nat) (m : Int) : cov z (us.take n ++ ws.take 1 ++ us.drop n ++ ws.drop 1) m ↔ cov z us m ∨ cov z ws m := by
  have a : cov z us m ↔ cov z (us.take n) m ∨ cov z (us.drop n) m := by rw [← cov_app, List.take_append_drop]
  have b : cov z ws m ↔ cov z (ws.take 1) m ∨ cov z (ws.drop 1) m := by rw [← cov_app, List.take_append_drop]
  rw [cov_app, cov_app, cov_app, a, b]
  constructor
  · rintro (((h | h) | h) | h)
    · exact .inl (.inl h)
    · exact .inr (.inl h)
    · exact .inl (.inr h)
    · exact .inr (.inr h)
  · rintro ((h | h) | (h | h))
    · exact .inl (.inl (.inl h))
    · exact .inl (.inr h)
    · exact .inl (.inl (.inr h))
    · exact .inr h
theorem cov_take_more {z : Bool} {l : List Pr} {i : Nat} {p : Pr} (h : l[i]? = some p) (m : Int) : cov z (l.take (i + 1)) m ↔ cov z (l.take i) m ∨ covP z p m := by
  rw [List.take_add_one, h, cov_app]
  show _ ∨ cov z [p] m ↔ _
  rw [cov_cons]
  simp [cov_nil]
theorem cov_two {z : Bool} {p q : Pr} {m : Int} : cov z [p, q] m ↔ covP z p m ∨ covP z q m := by
  rw [cov_cons, cov_cons]; simp [cov_nil]
theorem cov_single {z : Bool} {p : Pr} {m : Int} : cov z [p] m ↔ covP z p m := by
  rw [cov_cons]; simp [cov_nil]
end Spk
namespace Spk
theorem gapd_apart : ∀ {l : List Pr}, gapd l = true → (∀ q ∈ l, q.1 ≤ q.2) → ∀ p ∈ l, ∀ q ∈ l, p = q ∨ p.2 < q.1 ∨ q.2 < p.1
  | [], _, _, p, hp, _, _ => by simp at hp
  | x :: r, h, hs, p, hp, q, hq => by
    have ht := gapd_lt h (fun y hy => hs y (by simp [hy]))
    rcases List.mem_cons.mp hp with e1 | hp
    · rcases List.mem_cons.mp hq with e2 | hq
      · exact .inl (e1.trans e2.symm)
      · exact .inr (.inl (e1 ▸ ht q hq))
    · rcases List.mem_cons.mp hq with e2 | hq
      · exact .inr (.inr (e2 ▸ ht p hp))
      · exact gapd_apart (gapd_tail h) (fun y hy => hs y (by simp [hy])) p hp q hq
def hasAll (z : Bool) (l : List Pr) (s : Pr) : Bool := (!z && decide (s.1 = s.2)) || l.any fun p => decide (p.1 ≤ s.1) && decide (s.2 ≤ p.2)
theorem hasAll_iff {z : Bool} {l : List Pr} {s : Pr} (h : oneF z l = true) (hs : s.1 ≤ s.2) : hasAll z l s = true ↔ ∀ m, covP z s m → cov z l m := by
  constructor
  · intro h1 m hm
    unfold hasAll at h1
    simp only [Bool.or_eq_true, Bool.and_eq_true, decide_eq_true_eq, List.any_eq_true, Bool.not_eq_true'] at h1
    rcases h1 with ⟨e1, e2⟩ | ⟨p, hp, e1, e2⟩
    · subst e1
      unfold covP at hm
      simp at hm
      omega
    · exact ⟨p, hp, covP_sub e1 e2 hm⟩
  · intro h1
    unfold hasAll
    simp only [Bool.or_eq_true, Bool.and_eq_true, decide_eq_true_eq, List.any_eq_true, Bool.not_eq_true']
    by_cases c : z = false ∧ s.1 = s.2
    · exact .inl c
    · refine .inr ?_
      have hx : covP z s (2 * s.1) := by
        unfold covP
        cases z <;> simp at c ⊢ <;> omega
      obtain ⟨p, hp, c1, c2⟩ := h1 _ hx
      have hg : gapd l = true := by unfold oneF at h; rw [Bool.and_eq_true] at h; exact h.2
      have hle := oneF_le h
      refine ⟨p, hp, by omega, Classical.byContradiction fun hn => ?_⟩
      have hp2 : s.1 ≤ p.2 := by cases z <;> simp at c2 <;> omega
      have hy : covP z s (2 * p.2 + 1) := ⟨by omega, by split <;> omega⟩
      obtain ⟨q, hq, d1, d2⟩ := h1 _ hy
      have := hle p hp
      rcases gapd_apart hg hle p hp q hq with e | e | e
      · subst e
        cases z <;> simp at d2
        omega
      · omega
      · cases z <;> simp at d2 <;> omega
theorem joinG_len : ∀ (l : List Pr) (c : Pr), (joinG c l).length ≤ l.length + 1
  | [], c => Nat.le_refl _
  | p :: r, c => by
    unfold joinG
    split
    · have := joinG_len r p; simp; omega
    · have := joinG_len r (c.1, if c.2 < p.2 then p.2 else c.2); simp; omega
theorem joinM_len (l : List Pr) : (joinM l).length ≤ l.length + 1 := by
  cases l with
  | nil => exact Nat.zero_le _
  | cons p r => exact joinG_len (p :: r) p
theorem union_len (z : Bool) (l : List Pr) : (unionM z l).length ≤ l.length + 1 := by
  unfold unionM
  refine Nat.le_trans (joinM_len _) (Nat.succ_le_succ ?_)
  rw [(srt_perm _).length_eq]
  exact List.length_filter_le ..
theorem union_union (z : Bool) (l : List Pr) : unionM z (unionM z l) = unionM z l := union_is (union_one z l) fun _ => Iff.rfl
/-- a property of the pairs that joining keeps -/
theorem union_keeps {z : Bool} {G : Pr → Prop} (ext : ∀ c p : Pr, G c → G p → c.2 < p.2 → G (c.1, p.2)) {l : List Pr} (h : ∀ p ∈ l, G p) : ∀ p ∈ unionM z l, G p := by
  have jg : ∀ (l : List Pr) (c : Pr), G c → (∀ p ∈ l, G p) → ∀ p ∈ joinG c l, G p := by
    intro l
    induction l with
    | nil => intro c hc _ p hp; rw [joinG] at hp; exact (List.mem_singleton.mp hp) ▸ hc
    | cons q r ih =>
      intro c hc hl p hp
      unfold joinG at hp
      split at hp
      · rcases List.mem_cons.mp hp with e | hp
        · exact e ▸ hc
        · exact ih q (hl q (by simp)) (fun x hx => hl x (by simp [hx])) p hp
      · refine ih _ ?_ (fun x hx => hl x (by simp [hx])) p hp
        split
        · exact ext c q hc (hl q (by simp)) (by assumption)
        · exact hc
  have hl : ∀ p ∈ srt (l.filter fun p => !emp z p), G p := fun p hp => h p (List.mem_filter.mp ((srt_perm _).mem_iff.mp hp)).1
  unfold unionM
  generalize srt (l.filter fun p => !emp z p) = k at hl
  cases k with
  | nil => intro p hp; simp [joinM] at hp
  | cons q r => exact jg (q :: r) q (hl q (by simp)) hl
theorem any_filter {l : List Pr} {f : Pr → Bool} : (!decide (l.filter f = [])) = l.any f := by
  induction l with
  | nil => rfl
  | cons p r ih =>
    cases e : f p with
    | true => rw [List.filter_cons_of_pos e, List.any_cons, e]; simp
    | false => rw [List.filter_cons_of_neg (by rw [e]; decide), List.any_cons, e, Bool.false_or, ih]
end Spk
namespace Spk
theorem oneF_cons_mem {z : Bool} {l : List Pr} (h : oneF z l = true) {p : Pr} (hp : p ∈ l) : emp z p = false := by
  unfold oneF at h
  rw [Bool.and_eq_true, List.all_eq_true] at h
  simpa using h.1 p hp
end Spk

namespace Spk
/-! ### what the wishes for answers count -/
def mx (m n : Int) : Int := if n > m then n else m
def mn (m n : Int) : Int := if n < m then n else m
/-- have two stretches a moment in common -/
def meetB (z : Bool) (p q : Pr) : Bool := decide (mx p.1 q.1 < mn p.2 q.2) || (z && decide (mx p.1 q.1 = mn p.2 q.2))
theorem meet_emp (z : Bool) (p q : Pr) : meetB z p q = !emp z (mx p.1 q.1, mn p.2 q.2) := by
  unfold meetB emp
  rw [Bool.eq_iff_iff]
  cases z <;> simp <;> omega
theorem meet_symm {z : Bool} {p q : Pr} : meetB z p q = meetB z q p := by
  unfold meetB mx mn
  rw [Bool.eq_iff_iff]
  cases z <;> simp only [Bool.or_eq_true, Bool.and_eq_true, decide_eq_true_eq, Bool.false_and, Bool.true_and, Bool.false_eq_true, or_false] <;> (repeat' split) <;> omega
theorem meet_not {z : Bool} {p q : Pr} (h : emp z p = true ∨ emp z q = true) (hp : p.1 ≤ p.2) (hq : q.1 ≤ q.2) : meetB z p q = false := by
  rw [meet_emp]
  unfold emp mx mn at *
  rw [Bool.not_eq_false']
  cases z <;> simp only [Bool.false_eq_true, if_false, if_true, decide_eq_true_eq] at * <;> (repeat' split) <;> omega
theorem meet_srt {z : Bool} {p q : Pr} (h : q.1 ≤ p.1) (hp : emp z p = false) (hq : emp z q = false) : meetB z p q = !emp z (p.1, q.2) := by
  rw [meet_emp]
  congr 1
  rw [Bool.eq_iff_iff]
  unfold emp mx mn at *
  cases z <;> simp only [Bool.false_eq_true, if_false, if_true, decide_eq_true_eq, decide_eq_false_iff_not] at * <;> (repeat' split) <;> omega
/-- no two of them meet -/
def Apart (z : Bool) (ps : List Pr) : Prop := ps.Pairwise fun q p => meetB z p q = false
instance {z : Bool} {ps : List Pr} : Decidable (Apart z ps) := inferInstanceAs (Decidable (List.Pairwise _ _))
def clashB (z : Bool) (ps : List Pr) : Bool := !decide (Apart z ps)
theorem apart_perm {z : Bool} {l k : List Pr} (h : l.Perm k) : Apart z l ↔ Apart z k :=
  h.pairwise_iff fun {x y} e => by rw [meet_symm]; exact e
theorem apart_filter {z : Bool} {l : List Pr} (h : ∀ p ∈ l, p.1 ≤ p.2) : Apart z (l.filter fun p => !emp z p) ↔ Apart z l := by
  unfold Apart
  rw [List.pairwise_filter]
  constructor
  · intro k
    refine k.imp_of_mem fun {q p} hq hp r => ?_
    cases eq : emp z q with
    | true => exact meet_not (.inr eq) (h p hp) (h q hq)
    | false =>
      cases ep : emp z p with
      | true => exact meet_not (.inl ep) (h p hp) (h q hq)
      | false => exact r (by rw [eq]; rfl) (by rw [ep]; rfl)
  · intro k
    exact k.imp fun {q p} r _ _ => r
/-- the loop of has_clash -/
def clashF (z : Bool) : Int → List Pr → Bool
  | _, [] => false
  | r, p :: l => if (decide (r > -10000000000000000000000000000000) && !emp z (p.1, r)) = true then true else clashF z (mx r p.2) l
theorem emp_mx {z : Bool} {b x y : Int} : emp z (b, mx x y) = (emp z (b, x) && emp z (b, y)) := by
  rw [Bool.eq_iff_iff]
  unfold emp mx
  cases z <;> simp only [Bool.false_eq_true, if_false, if_true, Bool.and_eq_true, decide_eq_true_eq] <;> split <;> omega
theorem clashF_no {z : Bool} : ∀ (l : List Pr) (r : Int), (∀ p ∈ l, -10000000000000000000000000000000 < p.2) →
    (clashF z r l = false ↔ (∀ p ∈ l, r > -10000000000000000000000000000000 → emp z (p.1, r) = true) ∧ l.Pairwise fun q p => emp z (p.1, q.2) = true)
  | [], r, _ => by simp [clashF]
  | p :: l, r, h => by
    have hp := h p (by simp)
    have ih := clashF_no (z := z) l (mx r p.2) fun q hq => h q (by simp [hq])
    have g : mx r p.2 > -10000000000000000000000000000000 := by unfold mx; split <;> omega
    rw [List.pairwise_cons]
    unfold clashF
    by_cases c : (decide (r > -10000000000000000000000000000000) && !emp z (p.1, r)) = true
    · rw [if_pos c]
      refine ⟨(fun x => nomatch x), fun x => ?_⟩
      rw [Bool.and_eq_true, decide_eq_true_eq] at c
      have := x.1 p (by simp) c.1
      rw [this] at c
      exact absurd c.2 (by decide)
    · rw [if_neg c, ih]
      have c' : r > -10000000000000000000000000000000 → emp z (p.1, r) = true := fun hr => by
        cases e : emp z (p.1, r) with
        | true => rfl
        | false => exact absurd (by rw [e, decide_eq_true hr]; rfl) c
      constructor
      · rintro ⟨h1, h2⟩
        refine ⟨fun q hq hr => ?_, fun q hq => ?_, h2⟩
        · rcases List.mem_cons.mp hq with e | hq
          · rw [e]; exact c' hr
          · have := h1 q hq g
            rw [emp_mx, Bool.and_eq_true] at this
            exact this.1
        · have := h1 q hq g
          rw [emp_mx, Bool.and_eq_true] at this
          exact this.2
      · rintro ⟨h1, h2, h3⟩
        refine ⟨fun q hq _ => ?_, h3⟩
        rw [emp_mx, Bool.and_eq_true]
        refine ⟨?_, h2 q hq⟩
        by_cases hr : r > -10000000000000000000000000000000
        · exact h1 q (by simp [hq]) hr
        · have := h2 q hq
          have hh := h p (by simp)
          unfold emp at this ⊢
          cases z <;> simp only [Bool.false_eq_true, if_false, if_true, decide_eq_true_eq] at * <;> omega
theorem clash_is {z : Bool} {ps : List Pr} (h1 : ∀ p ∈ ps, p.1 ≤ p.2) (h2 : ∀ p ∈ ps, -10000000000000000000000000000000 < p.2) :
    clashF z (-10000000000000000000000000000000) (srt (ps.filter fun p => !emp z p)) = clashB z ps := by
  have hm : ∀ p ∈ srt (ps.filter fun p => !emp z p), p ∈ ps ∧ emp z p = false := fun p hp => by
    have := List.mem_filter.mp ((srt_perm _).mem_iff.mp hp)
    exact ⟨this.1, by simpa using this.2⟩
  have e : clashF z (-10000000000000000000000000000000) (srt (ps.filter fun p => !emp z p)) = false ↔ Apart z ps := by
    rw [clashF_no _ _ fun p hp => h2 p (hm p hp).1, ← apart_filter h1, ← apart_perm (srt_perm _)]
    constructor
    · rintro ⟨_, k⟩
      refine List.Pairwise.imp_of_mem (fun {q p} hq hp r => ?_) (k.and (srt_sorted _))
      have hle : q.1 ≤ p.1 := by have := r.2; unfold ple at this; omega
      rw [meet_srt hle (hm p hp).2 (hm q hq).2, r.1]; rfl
    · intro k
      refine ⟨fun p _ c => absurd c (by decide), List.Pairwise.imp_of_mem (fun {q p} hq hp r => ?_) (List.Pairwise.and k (srt_sorted _))⟩
      have hle : q.1 ≤ p.1 := by have := r.2; unfold ple at this; omega
      have := r.1
      rw [meet_srt hle (hm p hp).2 (hm q hq).2] at this
      simpa using this
  unfold clashB
  cases c : clashF z (-10000000000000000000000000000000) (srt (ps.filter fun p => !emp z p)) with
  | false => rw [decide_eq_true (e.mp c)]; rfl
  | true => rw [decide_eq_false fun x => by rw [e.mpr x] at c; cases c]; rfl
theorem clash_rev {z : Bool} {ps : List Pr} : clashB z ps.reverse = clashB z ps := by
  unfold clashB
  congr 1
  exact decide_eq_decide.mpr (apart_perm (List.reverse_perm ps))
/-- one more pair behind -/
theorem apart_take {z : Bool} {ps : List Pr} {k : Nat} {p : Pr} (h : ps[k]? = some p) : Apart z (ps.take (k + 1)) ↔ Apart z (ps.take k) ∧ ((ps.take k).any fun q => meetB z p q) = false := by
  have e : ps.take (k + 1) = ps.take k ++ [p] := by rw [List.take_add_one, h]; rfl
  unfold Apart
  rw [e, List.pairwise_append]
  simp only [List.pairwise_cons, List.not_mem_nil, false_imp_iff, implies_true, List.Pairwise.nil, and_true, List.mem_singleton, forall_eq, true_and, List.any_eq_false, Bool.not_eq_true]
/-! ### the law's own pieces -/
def pcGo : List Pr → Pr → List Pr × Pr
  | [], c => ([], c)
  | o :: r, c => if o.2 < c.1 ∨ c.2 < o.1 then (o :: (pcGo r c).1, (pcGo r c).2) else pcGo r (mn c.1 o.1, mx c.2 o.2)
def pcS (s : List Pr × Pr) (o : Pr) : List Pr × Pr := if o.2 < s.2.1 ∨ s.2.2 < o.1 then (s.1 ++ [o], s.2) else (s.1, (mn s.2.1 o.1, mx s.2.2 o.2))
theorem pcS_go : ∀ (l : List Pr) (a : List Pr) (c : Pr), l.foldl pcS (a, c) = (a ++ (pcGo l c).1, (pcGo l c).2)
  | [], a, c => by simp [pcGo]
  | o :: r, a, c => by
    rw [List.foldl_cons]
    unfold pcGo
    by_cases h : o.2 < c.1 ∨ c.2 < o.1
    · rw [if_pos h, show pcS (a, c) o = (a ++ [o], c) from if_pos h, pcS_go r (a ++ [o]) c]
      simp
    · rw [if_neg h, show pcS (a, c) o = (a, (mn c.1 o.1, mx c.2 o.2)) from if_neg h, pcS_go r a _]
def pcStep (z : Bool) (found : List Pr) (p : Pr) : List Pr := if (z || decide (p.1 < p.2)) = true then srt ((pcGo found p).1 ++ [(pcGo found p).2]) else found
def pieces (z : Bool) (ps : List Pr) : List Pr := ps.foldl (pcStep z) []
theorem pcGo_low {m : Int} : ∀ (l : List Pr) (c : Pr), (∀ o ∈ l, m < o.1) → m < c.1 → m < (pcGo l c).2.1
  | [], c, _, h => h
  | o :: r, c, hl, h => by
    unfold pcGo
    split
    · exact pcGo_low r c (fun x hx => hl x (by simp [hx])) h
    · refine pcGo_low r _ (fun x hx => hl x (by simp [hx])) ?_
      have := hl o (by simp)
      show m < mn c.1 o.1
      unfold mn; split <;> omega
theorem pcGo_far : ∀ (l : List Pr) (c : Pr), (∀ o ∈ l, c.2 < o.1) → pcGo l c = (l, c)
  | [], c, _ => rfl
  | o :: r, c, hl => by
    unfold pcGo
    rw [if_pos (.inr (hl o (by simp))), pcGo_far r c fun x hx => hl x (by simp [hx])]
theorem pcGo_sub : ∀ (l : List Pr) (c : Pr), (pcGo l c).1.Sublist l
  | [], c => .slnil
  | o :: r, c => by
    unfold pcGo
    split
    · exact (pcGo_sub r c).cons_cons o
    · exact (pcGo_sub r _).cons o
theorem pcGo_full {z : Bool} : ∀ (l : List Pr) (c : Pr), emp z c = false → emp z (pcGo l c).2 = false
  | [], c, h => h
  | o :: r, c, h => by
    unfold pcGo
    split
    · exact pcGo_full r c h
    · refine pcGo_full r _ ?_
      unfold emp mn mx at *
      cases z <;> simp only [Bool.false_eq_true, if_false, if_true, decide_eq_false_iff_not] at * <;> (repeat' split) <;> omega
def sep (a b : Pr) : Prop := a.2 < b.1 ∨ b.2 < a.1
theorem pcGo_sep : ∀ (l : List Pr) (c : Pr), gapd l = true → (∀ q ∈ l, q.1 ≤ q.2) → ∀ o ∈ (pcGo l c).1, sep o (pcGo l c).2
  | [], c, _, _, o, h => by simp [pcGo] at h
  | q :: r, c, g, hs, o, h => by
    have gr := gapd_tail g
    have hr : ∀ x ∈ r, x.1 ≤ x.2 := fun x hx => hs x (by simp [hx])
    have lt := gapd_lt g hr
    unfold pcGo at h ⊢
    split
    · rename_i hc
      rw [if_pos hc] at h
      rcases List.mem_cons.mp h with e | h
      · subst e
        rcases hc with hc | hc
        · exact .inl (pcGo_low r c lt hc)
        · rw [pcGo_far r c fun x hx => by have := lt x hx; have := hs o (by simp); omega]
          exact .inr hc
      · exact pcGo_sep r c gr hr o h
    · rename_i hc
      rw [if_neg hc] at h
      exact pcGo_sep r _ gr hr o h
theorem cov_mnx {z : Bool} {c o : Pr} (h1 : c.1 ≤ o.2) (h2 : o.1 ≤ c.2) (h3 : c.1 ≤ c.2) (h4 : o.1 ≤ o.2) {m : Int} : covP z (mn c.1 o.1, mx c.2 o.2) m ↔ covP z o m ∨ covP z c m := by
  unfold covP mn mx
  cases z <;> simp only [Bool.false_eq_true, if_false, if_true] <;> (repeat' split) <;> omega
theorem pcGo_cov {z : Bool} : ∀ (l : List Pr) (c : Pr), (∀ q ∈ l, q.1 ≤ q.2) → c.1 ≤ c.2 → ∀ m, (cov z (pcGo l c).1 m ∨ covP z (pcGo l c).2 m) ↔ (cov z l m ∨ covP z c m)
  | [], c, _, _, m => Iff.rfl
  | o :: r, c, hs, hc, m => by
    have hr : ∀ x ∈ r, x.1 ≤ x.2 := fun x hx => hs x (by simp [hx])
    have ho := hs o (by simp)
    unfold pcGo
    split
    · rw [cov_cons, cov_cons, or_assoc, or_assoc, pcGo_cov r c hr hc m]
    · rename_i h
      have h1 : c.1 ≤ o.2 ∧ o.1 ≤ c.2 := by omega
      rw [pcGo_cov r _ hr (by show mn c.1 o.1 ≤ mx c.2 o.2; unfold mn mx; (repeat' split) <;> omega) m, cov_mnx h1.1 h1.2 hc ho, cov_cons]
      constructor
      · rintro (a | a | a)
        · exact .inl (.inr a)
        · exact .inl (.inl a)
        · exact .inr a
      · rintro ((a | a) | a)
        · exact .inr (.inl a)
        · exact .inl a
        · exact .inr (.inr a)
theorem gapd_sep : ∀ {l : List Pr}, l.Pairwise ple → l.Pairwise sep → (∀ q ∈ l, q.1 ≤ q.2) → gapd l = true
  | [], _, _, _ => rfl
  | [_], _, _, _ => rfl
  | p :: q :: r, h1, h2, hs => by
    have a := (List.pairwise_cons.mp h1).1 q (by simp)
    have b := (List.pairwise_cons.mp h2).1 q (by simp)
    have hq := hs q (by simp)
    unfold gapd
    rw [gapd_sep (List.pairwise_cons.mp h1).2 (List.pairwise_cons.mp h2).2 fun x hx => hs x (by simp [hx]), Bool.and_true, decide_eq_true_eq]
    unfold ple at a
    unfold sep at b
    omega
theorem gapd_pw : ∀ {l : List Pr}, gapd l = true → (∀ q ∈ l, q.1 ≤ q.2) → l.Pairwise sep
  | [], _, _ => .nil
  | p :: r, g, hs => List.pairwise_cons.mpr ⟨fun q hq => .inl (gapd_lt g (fun x hx => hs x (by simp [hx])) q hq), gapd_pw (gapd_tail g) fun x hx => hs x (by simp [hx])⟩
theorem sep_symm {a b : Pr} (h : sep a b) : sep b a := h.symm
theorem pcStep_ok {z : Bool} {f : List Pr} {p : Pr} (h : oneF z f = true) (hp : p.1 ≤ p.2) : oneF z (pcStep z f p) = true ∧ ∀ m, cov z (pcStep z f p) m ↔ cov z f m ∨ covP z p m := by
  have hf := oneF_le h
  have h' := h
  unfold oneF at h
  rw [Bool.and_eq_true, List.all_eq_true] at h
  unfold pcStep
  by_cases c : (z || decide (p.1 < p.2)) = true
  · rw [if_pos c]
    have hpe : emp z p = false := by
      unfold emp
      cases z <;> simp at c ⊢ <;> omega
    have sub := pcGo_sub f p
    have full := pcGo_full f p hpe
    have mem : ∀ x ∈ srt ((pcGo f p).1 ++ [(pcGo f p).2]), emp z x = false := fun x hx => by
      rcases List.mem_append.mp ((srt_perm _).mem_iff.mp hx) with y | y
      · simpa using h.1 x (sub.subset y)
      · rw [List.mem_singleton.mp y]; exact full
    refine ⟨?_, fun m => ?_⟩
    · unfold oneF
      rw [Bool.and_eq_true, List.all_eq_true]
      refine ⟨fun x hx => by rw [mem x hx]; rfl, gapd_sep (srt_sorted _) ?_ fun x hx => emp_le (mem x hx)⟩
      refine ((srt_perm _).pairwise_iff fun {x y} e => sep_symm e).mpr ?_
      rw [List.pairwise_append]
      exact ⟨(gapd_pw h.2 hf).sublist sub, by simp, fun a ha b hb => by rw [List.mem_singleton.mp hb]; exact pcGo_sep f p h.2 hf a ha⟩
    · rw [cov_perm (srt_perm _), cov_app, cov_cons, ← pcGo_cov f p hf hp m]
      simp [cov_nil]
  · rw [if_neg c]
    refine ⟨h', fun m => ⟨Or.inl, fun x => x.elim id fun y => absurd y (emp_cov ?_ m)⟩⟩
    unfold emp
    cases z <;> simp at c ⊢ <;> omega
theorem pieces_ok {z : Bool} : ∀ (ps : List Pr) (f : List Pr), oneF z f = true → (∀ p ∈ ps, p.1 ≤ p.2) → oneF z (ps.foldl (pcStep z) f) = true ∧ ∀ m, cov z (ps.foldl (pcStep z) f) m ↔ cov z f m ∨ cov z ps m
  | [], f, h, _ => ⟨h, fun m => by simp [cov_nil]⟩
  | p :: r, f, h, hs => by
    obtain ⟨a, b⟩ := pcStep_ok (z := z) h (hs p (by simp))
    obtain ⟨c, d⟩ := pieces_ok r _ a fun x hx => hs x (by simp [hx])
    refine ⟨c, fun m => ?_⟩
    show cov z (r.foldl (pcStep z) (pcStep z f p)) m ↔ _
    rw [d m, b m, cov_cons, or_assoc]
theorem pieces_is {z : Bool} {ps : List Pr} (h : ∀ p ∈ ps, p.1 ≤ p.2) : pieces z ps = unionM z ps := by
  obtain ⟨a, b⟩ := pieces_ok (z := z) ps [] rfl h
  exact (union_is a fun m => by rw [b m]; simp [cov_nil]).symm
theorem pieces_len {z : Bool} {ps : List Pr} : (pieces z ps).length ≤ ps.length := by
  have : ∀ (l f : List Pr), (l.foldl (pcStep z) f).length ≤ f.length + l.length := by
    intro l
    induction l with
    | nil => intro f; simp
    | cons p r ih =>
      intro f
      have h1 := ih (pcStep z f p)
      have h2 : (pcStep z f p).length ≤ f.length + 1 := by
        unfold pcStep
        split
        · rw [(srt_perm _).length_eq, List.length_append, List.length_singleton]
          have := (pcGo_sub f p).length_le
          omega
        · omega
      rw [List.foldl_cons, List.length_cons]
      omega
  have := this ps []
  unfold pieces
  simpa using this
/-! ### the answers -/
def busyB (z : Bool) (ps : List Pr) (w : Pr) : Bool := ps.any fun p => meetB z p w
def covB (us : List Pr) (w : Pr) : Bool := us.any fun p => decide (p.1 ≤ w.1) && decide (w.2 ≤ p.2)
/-- t: 0 busy, 1 covered, 2 clash -/
def ansB (t : Nat) (z : Bool) (ps : List Pr) (w : Pr) : Bool := if t = 0 then busyB z ps w else if t = 1 then covB (unionM z ps) w else clashB z ps
theorem union_rev {z : Bool} {ps : List Pr} : unionM z ps.reverse = unionM z ps := union_eq_iff.mpr fun m => cov_perm (List.reverse_perm ps)
theorem ans_rev {t : Nat} {z : Bool} {ps : List Pr} {w : Pr} : ansB t z ps.reverse w = ansB t z ps w := by
  unfold ansB
  rw [clash_rev, union_rev, show busyB z ps.reverse w = busyB z ps w from List.any_reverse ..]
theorem ans_nil {t : Nat} {z : Bool} {w : Pr} : ansB t z [] w = false := by
  unfold ansB busyB clashB
  split
  · rfl
  · split
    · rfl
    · rw [decide_eq_true (show Apart z [] from .nil)]; rfl
end Spk

namespace Spk
open PySem PySem.Spec PyProof.Rows L2
/-! Defs that are run where no repr is under way: the layer's rule of a def, with that known of the place. -/
structure FnG (P : Program) (w : World) (K : PySem.W.Frag) (mg : Str → Option Value) (bh : Heap) (k : Nat) (f : Addr) (fd : FuncData) (ps : List Str) (sp : Sp) : Prop where
  lenG : ∀ ws J R U, sp ws J R U → ws.length = ps.length
  runG : ∀ (B : Around) (ou : List Env) (t : Shared) (J : Hp) (ar : Args) (xs : List Value) (ws : List V) (R : VK) (U : XK), B.guards = some [] → Room k B →
    Env0 P w K mg bh B ou t J → BindsTo t fd ar (ps.zip xs) → Vals ws xs → sp ws J R U →
    codeAny (model P w) B (.call (.ref f) ar) (CR CX0 ou P w J t R U) t
section
variable {P : Program} {w : World} {K : PySem.W.Frag} {mg : Str → Option Value} {bh : Heap}
theorem fnG_of {k : Nat} {f : Addr} {nm qu : Str} {pr : Arguments} {bd : List Stmt} {sc : Scope} {v1 v2 v3 v4 v5 v6 v7 : Value} {o1 o2 : Option Addr}
    {sl : Array (Option Value)} {N ps : List Str} {sp : Sp}
    (lk : K.lookup f = some ⟨v7, o2, .func (PySem.W.fnOf nm qu pr bd sc v1 v2 v3 v4 o1 v5 v6), sl⟩)
    (hcd : PySem.W.codeIn K v5 qu = true) (S : FnScope N ps sc)
    (ln : ∀ ws J R U, sp ws J R U → ws.length = ps.length)
    (hb : ∀ (B : Around) (ou : List Env) (t : Shared) (J : Hp) (ws : List V) (R : VK) (U : XK), B.guards = some [] →
      Room k (B.deeper (envOfC qu sc t.heap.objs.size f v5)) → sp ws J R U →
      ∃ tr, PSs (cxOf CX0 P w K mg bh N qu sc f v5 B ou t J U) bd tr ∧ tr { nx := fun _ J' => R .non J', rt := R } (L2.start N ws) J) :
    FnG P w K mg bh (k + 1) f (PySem.W.fnOf nm qu pr bd sc v1 v2 v3 v4 o1 v5 v6) ps sp := by
  refine ⟨ln, fun B ou t J ar xs ws R U hgd rm e0 bi rl hsp => ?_⟩
  have hlen := ln _ _ _ _ hsp
  have kin : K.In t.heap := e0.mod.kin.keeps fun z y q => (e0.bs z y q).1
  have nol : t.heap.NoLimit := e0.mod.nolimit.keeps fun z y q => (e0.bs z y q).1
  refine codeAny_call_function rm.depth (kin _ _ lk) rfl S.co S.gen rfl (PySem.W.codeRec_of kin hcd) (bi _ _ _ _ ?_)
  refine wpAny_newFunctionEnv_cells S.kind ?_ fun en hen s1 ic => ?_
  · rintro ⟨n, v⟩ hy
    exact (S.par n (List.of_mem_zip hy).1).imp id fun q => ⟨q, PySem.W.cellsFrom_some _ _ _ (.inl q)⟩
  · subst hen
    refine ⟨nol.keeps ic.toInCall.keep, codeAny_func ?_⟩
    obtain ⟨tr, htr, hq⟩ := hb B ou t J ws R U hgd (rm.deeper _) hsp
    have iv : Inv (cxOf CX0 P w K mg bh N qu sc f v5 B ou t J U) [] (L2.start N ws) J s1 := inv_start S rm.hd e0 hlen rl ic
    refine wpAny_mono (htr.run [] s1 (L2.start N ws) J _ iv hq) (fun fl s2 hs => ?_) fun _ _ hs => hs
    cases fl with
    | ret u =>
      obtain ⟨v, _, J', I', rv, q⟩ := hs
      exact ⟨v, J', I'.os, I'.bare, I'.base, I'.hok, rv, q⟩
    | next =>
      obtain ⟨_, J', I', q⟩ := hs
      exact ⟨.non, J', I'.os, I'.bare, I'.base, I'.hok, rfl, q⟩
    | brk => exact hs.elim fun _ h => h.elim fun _ h => h.2.elim
    | cont => exact hs.elim fun _ h => h.elim fun _ h => h.2.elim
theorem Fun.okG {x qu : Str} {st : Stmt} {f : Addr} {fd : FuncData} {N ps : List Str} {k : Nat} {sp : Sp} (F : Fun K x qu st f fd) (S : FnScope N ps (defScope st))
    (ln : ∀ ws J R U, sp ws J R U → ws.length = ps.length)
    (hb : ∀ (cv : Value) (B : Around) (ou : List Env) (t : Shared) (J : Hp) (ws : List V) (R : VK) (U : XK), B.guards = some [] →
      Room k (B.deeper (envOfC qu (defScope st) t.heap.objs.size f cv)) → sp ws J R U →
      ∃ tr, PSs (cxOf CX0 P w K mg bh N qu (defScope st) f cv B ou t J U).nox (defBody st) tr ∧ tr { nx := fun _ J' => R .non J', rt := R } (L2.start N ws) J) :
    FnG P w K mg bh (k + 1) f fd ps sp := by
  obtain ⟨_, _, _, _, _, _, cv, _, _, rfl, lk, hcd⟩ := F.ex
  refine fnG_of lk hcd S ln fun B ou t J ws R U hgd rm hsp => ?_
  obtain ⟨tr, h, q⟩ := hb cv B ou t J ws R U hgd rm hsp
  exact ⟨tr, h.nox, q⟩
theorem FnG.of {k : Nat} {f : Addr} {fd : FuncData} {ps : List Str} {sp : Sp} (F : FnOk P w K mg bh CX0 k f fd ps sp) : FnG P w K mg bh k f fd ps sp :=
  ⟨F.len, fun B ou t J ar xs ws R U _ rm e0 bi rl h => F.run B ou t J ar xs ws R U rm e0 bi rl h⟩
end
section
variable {X : Cx} {k : Nat} {f : Addr} {fd : FuncData} {ps : List Str} {sp : Sp} {dvs : List V} {ds : List Value} {x : Str} {p pos : Pos} {e : Expr} {es : List Expr} {t : TA}
theorem run_fnG {pins : List (Addr × Obj)} {σ : L2.St} {J : Hp} {s : Shared} {R : VK} {xs : List Value} {ws : List V} (F : FnG X.prog X.w X.K X.mg X.base k f fd ps sp) (gd : X.A.guards = some []) (rm : Room k X.A)
    (bi : Binds X.K fd ps ds) (dd : Vals dvs ds) (I : Inv X pins σ J s) (rl : Vals ws xs) (h : sp (ws ++ dvs) J R E0) :
    wpAny (model X.prog X.w) X.A (call (.ref f) xs) (EP X pins σ R) X.xe s := by
  have r2 : Vals (ws ++ dvs) (xs ++ ds) := rl.append dd
  have hl : (xs ++ ds).length = ps.length := r2.length.symm.trans (F.lenG _ _ _ _ h)
  refine wpAny_call (codeAny_mono (F.runG X.A X.stack s J ⟨xs, []⟩ (xs ++ ds) (ws ++ dvs) R E0 gd rm I.env0 (bi s xs I.kIn hl) r2 h) fun r s' hq => ?_)
  match r, hq with
  | .ok (.ret u), hq => exact I.after hq
/-- f(e, ..), f a def that wants no repr under way -/
theorem pe_callG (F : FnG X.prog X.w X.K X.mg X.base k f fd ps sp) (gd : X.A.guards = some []) (rm : Room k X.A) (hg : Gl X x) (hm : X.mg x = some (.ref f)) (hk : PySem.W.keepIn X.K (.ref f) = true)
    (bi : Binds X.K fd ps ds) (dd : Vals dvs ds) (ha : PA X (e :: es) t) (hdb : (x == ("__debug__" : Str)) = false := by decide)
    (he : starEach (e :: es) X.env = (false, eval e X.env) :: starEach es X.env := by rfl) (hpl : (backTo pos (starEach es X.env)).any (·.1) = false := by rfl) :
    PE X (.Call (.Name x p) (e :: es) [] pos) (tCall sp dvs E0 t) := by
  refine ⟨fun pins s σ J R I h => wpAny_Call_Name_kw (ld_glob I hg hm ?_ hdb)⟩
  refine PySem.W.callWith_K (h₀ := X.base) I.ok.mod.kin hk (thn (ha.run pos pins s σ J _ I h) fun xs s1 hh => ?_) he hpl
  obtain ⟨ws, J1, I1, rl, q⟩ := hh
  exact ⟨I1.kIn, run_fnG F gd rm bi dd I1 rl q⟩
/-- repr of data: None, bools, ints, texts, lists and tuples of these, where no repr is under way -/
def rRepr (K : PySem.W.Frag) : List V → Hp → VK → Prop := fun xs J R => ∃ (x : V) (d : PyData), xs = [x] ∧ Dp K J x d ∧ d.showable = true ∧ d.hasDict = false ∧ d.depth ≤ 64 ∧ d.shown.length ≤ sizeLine ∧ R (.str d.shown) J
theorem call_reprD (gd : X.A.guards = some []) (rm : Room k X.A) : CallR X (.builtin "repr") (rRepr X.K) := by
  intro pins s σ J xs us R I r h
  obtain ⟨x, d, rfl, dp, hs, hnd, hdep, hz, q⟩ := h
  have hu : X.A.units + (d.depth + 1) < cLine := by have := rm.un; omega
  obtain ⟨u, rfl, ru⟩ := vals1 r
  obtain ⟨as, rd⟩ := Dp.reads I d x u dp ru
  have fin : ∀ h' tk, (∀ b o, s.heap.get? b = some o → h'.get? b = some o) → ∀ t, EP X pins σ R (.str d.shown t) { s with heap := h', toks := tk } := fun h' tk hk t =>
    ⟨.str d.shown, J, I.kept (t' := tk) hk, ⟨t, rfl⟩, q⟩
  cases dp with
  | non =>
    obtain rfl : u = Value.none := ru
    refine PySem.P.repr_of_none ?_
    have := fin s.heap (s.toks + 1) (fun _ _ z => z) s.toks
    simpa only [PyData.shown_none] using this
  | bl b =>
    obtain rfl : u = Value.bool b := ru
    refine PySem.P.repr_of_bool ?_
    have := fin s.heap (s.toks + 1) (fun _ _ z => z) s.toks
    simp only [PyData.shown_bool] at this
    cases b <;> exact this
  | int i =>
    obtain ⟨t, rfl⟩ := ru
    refine PySem.P.repr_of_int (by simpa [PyData.showable] using hs) ?_
    have := fin s.heap (s.toks + 1) (fun _ _ z => z) s.toks
    simpa only [PyData.shown_int] using this
  | str y =>
    obtain ⟨t, rfl⟩ := ru
    refine PySem.P.repr_of_str ?_ (by simpa only [PyData.shown_str] using hz)
    have := fin s.heap (s.toks + 1) (fun _ _ z => z) s.toks
    simpa only [PyData.shown_str] using this
  | @lst a ys ds sq da =>
    obtain rfl : u = Value.ref a := ru
    exact repr_of_reads' rd hs (fun z => absurd z (by rw [hnd]; decide)) gd hu (fun _ _ z => z) (fun h' t tk hk => fin h' tk hk t) hz
  | @tup a ys ds sq da =>
    obtain rfl : u = Value.ref a := ru
    exact repr_of_reads' rd hs (fun z => absurd z (by rw [hnd]; decide)) gd hu (fun _ _ z => z) (fun h' t tk hk => fin h' tk hk t) hz
end
end Spk

namespace Spk
open PySem PySem.Spec PyProof.Rows L2
section
variable {P : Program} {w : World} {K : PySem.W.Frag} {mg mb : Str → Option Value} {k : Nat} {fa a : Addr} {fd : FuncData} {x : Str} {sp : Sp} {t : Shared} {zs : List Value} {ns : List Int}
def Fin1 (t : Shared) (r : Result) (u : Shared) : Prop := r = .ok (.ret (.bool true)) ∧ OldK t.heap u.heap ∧ u.os = t.os ∧ AllBare u.gens
/-- the law's call, from a heap that tracks nothing but the script (or nothing) -/
theorem coreG {J : Hp} (KX : K.In t.heap) (hns : t.heap.Ns mainGlobals mg) (hb : t.heap.Ns builtinsNs mb) (hbb : ∀ y : Str, y ≠ "__name__" → mb y = bootBuiltins y) (hlim : t.heap.NoLimit) (hg : t.gens = #[])
    (ha : t.heap.get? a = some { cls := .type "list", data := .seq zs.toArray }) (rm : Room k callerA)
    (F : ∀ bh : Heap, K.In bh → bh.Ns mainGlobals mg → FnG P w K mg bh k fa fd [x] sp) (bi : ∀ (s : Shared) (u : Value), BindsTo s fd ⟨[u], []⟩ [(x, u)])
    (hO : Only J) (hok : HOk P w J t.heap) (hA : ∀ b, J b ≠ none → b = a) (hK : J a ≠ none → K.lookup a = none)
    (hsp : sp [.ref a] J (fun v _ => v = .bl true) E0) : codeAny (model P w) callerA (.call (.ref fa) ⟨[.ref a], []⟩) (Fin1 t) t := by
  have gone : ∀ b o es ep, t.heap.get? b = some o → o.data = .dict es ep → J b = none := by
    intro b o es ep e d
    cases q : J b with
    | none => rfl
    | some u =>
      obtain rfl : b = a := hA b (by rw [q]; exact fun z => nomatch z)
      obtain rfl : _ = o := Option.some.inj (ha.symm.trans e)
      exact nomatch (show Data.seq zs.toArray _ = Data.dict es ep from d)
  have ns' : ∀ b m, t.heap.Ns b m → (hidT t.heap J).Ns b m := by
    rintro b m ⟨o, es, ep, e, d, r⟩
    exact ⟨o, es, ep, hidT_get e (gone b o es ep e d), d, r⟩
  have kb : K.In (hidT t.heap J) := by
    intro b o e
    refine hidT_get (KX b o e) ?_
    cases q : J b with
    | none => rfl
    | some u =>
      obtain rfl : b = a := hA b (by rw [q]; exact fun z => nomatch z)
      exact absurd e (by rw [hK (by rw [q]; exact fun z => nomatch z)]; exact fun z => nomatch z)
  have md : Mod K mg (hidT t.heap J) := ⟨kb, ns' _ _ hns, ⟨mb, ns' _ _ hb, hbb⟩, hlim.imp fun mc h => ⟨ns' _ _ h.1, h.2⟩⟩
  have e0 : Env0 P w K mg (hidT t.heap J) callerA [] t J :=
    { frames := rfl, mod := md, bs := fun _ _ e => of_hidT e, bsz := Nat.le_of_eq (hidT_size _ _), funs := trivial, frf := (fun _ h => nomatch h), hok := hok, bare := .of_eq hg }
  refine codeAny_mono ((F _ kb (ns' _ _ hns)).runG callerA [] t J ⟨[.ref a], []⟩ [.ref a] [.ref a] _ E0 rfl rm e0 (bi t (.ref a)) (.cons rfl .nil) hsp) fun r u h => ?_
  match r, h with
  | .ok (.ret y), h =>
    obtain ⟨v, J', os, bare, un, hok', ry, q⟩ := h
    obtain rfl : v = .bl true := q
    obtain rfl : y = Value.bool true := ry
    refine ⟨rfl, OldK.of_keep fun b o e => ?_, os, bare⟩
    rcases hO b with z | ⟨ob, xs, z⟩
    · exact un.keep b o e z (fun h => nomatch h) (fun h => nomatch h)
    · have e1 := (hok b _ z).1
      have e2 := (hok' b _ (un.frzs b ob _ z)).1
      exact e2.trans (e1.symm.trans e)
theorem lawG (KX : K.In t.heap) (hns : t.heap.Ns mainGlobals mg) (hb : t.heap.Ns builtinsNs mb) (hbb : ∀ y : Str, y ≠ "__name__" → mb y = bootBuiltins y) (hlim : t.heap.NoLimit) (hg : t.gens = #[])
    (ha : t.heap.get? a = some { cls := .type "list", data := .seq zs.toArray }) (hi : IntsAre zs ns) (hl : ns.length ≤ sizeLine) (rm : Room k callerA)
    (F : ∀ bh : Heap, K.In bh → bh.Ns mainGlobals mg → FnG P w K mg bh k fa fd [x] sp) (bi : ∀ (s : Shared) (u : Value), BindsTo s fd ⟨[u], []⟩ [(x, u)])
    (hsp : ∀ J : Hp, Only J → SqL K J a (ns.map V.int) → sp [.ref a] J (fun v _ => v = .bl true) E0) :
    codeAny (model P w) callerA (.call (.ref fa) ⟨[.ref a], []⟩) (Fin1 t) t := by
  have rv : Vals (ns.map V.int) zs := vals_ints hi
  have ll : zs.length ≤ sizeLine := by rw [← rv.length, List.length_map]; exact hl
  cases hk : K.lookup a with
  | some o =>
    obtain rfl : _ = o := Option.some.inj (ha.symm.trans (KX a o hk))
    have sq : SqL K (fun _ => none) a (ns.map V.int) := Or.inr ⟨_, zs.toArray, _, hk, rfl, rfl, rfl, by simpa using ll, by simpa using rv⟩
    exact coreG KX hns hb hbb hlim hg ha rm F bi (fun _ => Or.inl rfl) (fun _ _ z => nomatch z) (fun _ z => absurd rfl z) (fun z => absurd rfl z) (hsp _ (fun _ => Or.inl rfl) sq)
  | none =>
    let J : Hp := fun b => if b = a then some (.frz { cls := .type "list", data := .seq zs.toArray } (.lst (ns.map V.int))) else none
    have ja : J a = some (.frz { cls := .type "list", data := .seq zs.toArray } (.lst (ns.map V.int))) := if_pos rfl
    have jn : ∀ b, b ≠ a → J b = none := fun b h => if_neg h
    have ho : Only J := fun b => (Classical.em (b = a)).elim (fun e => Or.inr ⟨_, _, e ▸ ja⟩) fun e => Or.inl (jn b e)
    refine coreG KX hns hb hbb hlim hg ha rm F bi ho (fun b u z => ?_) (fun b z => Classical.byContradiction fun e => z (jn b e)) (fun _ => hk) (hsp J ho (Or.inl (Or.inr ⟨_, ja⟩)))
    by_cases e : b = a
    · subst e
      obtain rfl := Option.some.inj (ja.symm.trans z)
      exact ⟨ha, by rw [List.length_map]; exact hl, zs, _, rv, ha⟩
    · exact absurd ((jn b e).symm.trans z) fun z => nomatch z
end
theorem walkG {l : PySem.W.OpenLaw} {n k : Nat} {q : Program} {lo : List Str} {XP : (Str → Option Value) → Heap → Prop} {YP : World → Heap → Prop} {d : DefRec} {K : Params → PySem.W.Frag} {sp : World → Sp} {x : Str}
    (hn : l.most = some n) (hn2 : n ≤ sizeLine) (hdf : d.params.defaults = []) (rm : Room k callerA) (hY : ∀ (w : World) (h : Heap), YP w h → (K w.params).In h)
    (F : ∀ (w : World) (mg : Str → Option Value) (fa : Addr) (h : Heap), (K w.params).In h → h.Ns mainGlobals mg → mg d.name = some (.ref fa) →
      ∃ fd : FuncData, (∀ (s : Shared) (u : Value), BindsTo s fd ⟨[u], []⟩ [(x, u)]) ∧
        ∀ bh : Heap, (K w.params).In bh → bh.Ns mainGlobals mg → FnG l.prog w (K w.params) mg bh k fa fd [x] (sp w))
    (hsp : ∀ (w : World) (J : Hp) (a : Addr) (ns : List Int), ns.length ≤ n → Only J → SqL (K w.params) J a (ns.map V.int) → sp w [.ref a] J (fun v _ => v = .bl true) E0) :
    PySem.W.WalkO q lo XP YP l.row.toRowW d [] (fun f vs => PySem.call f vs) := by
  refine Att.attach_call hn hdf fun w s₀ t mg mb fa o pm cd doc a zs ns G Y ho hd hcd hmg hobj hints hlen hg => ?_
  obtain ⟨fd, bi, hF⟩ := F w mg fa _ (hY w _ Y) G.T.g hmg
  exact lawG (hY w _ Y) G.T.g G.T.b G.T.builtins G.T.nolimit hg hobj hints (Nat.le_trans hlen hn2) rm hF bi fun J hO hS => hsp w J a ns hlen hO hS
end Spk

namespace Spk
open PySem PySem.Spec PyProof.Rows L2
open AutoSeq1 (wpAny_loadPart')
theorem enumT_new (t : Addr) (its : Array Value) (n : Nat) (dct : Option Addr) (sl : Array (Option Value)) :
    Meets (Builtin.«enumerate.__new__» ⟨[.type "enumerate", .ref t], []⟩) (fun _ R s => s.heap.get? t = some { cls := .type "tuple", dict := dct, data := .seq its n, slots := sl } ∧
      R (.ok (.ret (.ref (s.heap.push { cls := .type "tuple_iterator", data := .fields #[.ref t, .int 0 0] }).objs.size)))
        { s with heap := (s.heap.push { cls := .type "tuple_iterator", data := .fields #[.ref t, .int 0 0] }).push { cls := .type "enumerate", data := .fields #[.none, .bool false, .ref s.heap.objs.size, rawInt 0, .none, .none] } }) :=
  .of_wp fun prog w A R s h => by
    obtain ⟨hp, g, d, tk, os⟩ := s; obtain ⟨ht, h⟩ := h
    have hsub := sub_enumerate
    have hT : Heap.IsTuple (Shared.heap ⟨hp, g, d, tk, os⟩) t its := ⟨_, ht, rfl, n, rfl⟩
    wp_walk using wpAny_loadPart' ht
    refine wpAny_stack_any fun st => wpAny_pure ?_
    split
    · rename_i c _ _ _ _ _
      cases (c == Value.type "enumerate") <;> (wp_walk using wpAny_loadPart' ht, wpAny_pyIter_tuple hT; exact ⟨_, rfl, h⟩)
    · wp_walk using wpAny_loadPart' ht, wpAny_pyIter_tuple hT
      exact ⟨_, rfl, h⟩
theorem mem2 {α : Type} {b x y : α} (h : b ∈ [x, y]) : b = x ∨ b = y := by simpa using h
section
variable {prog : Program} {w : World} {A : Around} {E : Value → Shared → Prop} {s : Shared}
theorem enumT_call {t : Addr} {its : Array Value} {Q : Value → Shared → Prop} (hT : s.heap.IsTuple t its)
    (h : ∀ g, IsEnum g (s.heap.objs.size + 1) s.heap.objs.size 0 .none → g.IsTupleIter s.heap.objs.size t 0 → g.objs.size = s.heap.objs.size + 2 →
      (∀ b o, s.heap.get? b = some o → g.get? b = some o) → Q (.ref (s.heap.objs.size + 1)) { s with heap := g }) :
    wpAny (model prog w) A (call (.type "enumerate") [.ref t]) Q E s := by
  obtain ⟨⟨c, dct, dt, sl⟩, ht, hc, n, hd⟩ := hT
  obtain rfl : c = .type "tuple" := hc
  obtain rfl : dt = .seq its n := hd
  refine callType_new F.called_enumerate (by decide) (F.typeCall_enumerate_1 _) (F.newCall_enumerate_1 _) (fun ob => F.args_object_init_2 ob _) F.entry_enumerate_new (enumT_new t its n dct sl) ⟨ht, ?_⟩
  have hz : (s.heap.push { cls := .type "tuple_iterator", data := .fields #[.ref t, .int 0 0] }).objs.size = s.heap.objs.size + 1 := Heap.size_push ..
  show _ ∧ _
  rw [hz]
  have he : IsEnum ((s.heap.push { cls := .type "tuple_iterator", data := .fields #[.ref t, .int 0 0] }).push
      { cls := .type "enumerate", data := .fields #[.none, .bool false, .ref s.heap.objs.size, rawInt 0, .none, .none] }) (s.heap.objs.size + 1) s.heap.objs.size 0 .none := by
    have q := Heap.get?_push_size (s.heap.push { cls := .type "tuple_iterator", data := .fields #[.ref t, .int 0 0] })
      (o := { cls := .type "enumerate", data := .fields #[.none, .bool false, .ref s.heap.objs.size, rawInt 0, .none, .none] }) rfl
    rw [hz] at q; exact q
  exact ⟨⟨_, he, rfl⟩, h _ he ⟨_, Heap.get?_push_of_some _ (Heap.get?_push_size _ rfl), rfl, rfl⟩ (by rw [Heap.size_push, hz]) fun b o q => Heap.get?_push_of_some _ (Heap.get?_push_of_some _ q)⟩
end
/-- enumerate(tuple): each item in a new pair -/
def ItE (K : PySem.W.Frag) (a : Addr) : It where
  go := fun i H => ∃ (xs : List V) (x : V), SqT K H a xs ∧ xs[i]? = some x
  yld := fun i H v H' => ∃ T x, v = .ref T ∧ H T = none ∧ H' = upd H T (.tup [.int (i : Nat), x]) ∧ ∀ xs, SqT K H a xs → xs[i]? = some x
  stop := fun i H => ∃ xs : List V, SqT K H a xs ∧ xs.length ≤ i
theorem turnE {P : Program} {w : World} {K : PySem.W.Frag} {elts : List Expr} {kk : Nat} {tpos : Pos} (a e it : Addr) (hai : a ≠ it) (hae : e ≠ a) :
    Turn P w K (.Tuple elts kk tpos) (ItE K a) [e, it] e (fun i h => (∃ old, IsEnum h e it ((i : Nat) : Int) old) ∧ h.IsTupleIter it a i ∧ e ≠ it) where
  mem := List.mem_cons_self
  obj := by
    rintro i h ⟨⟨old, he⟩, ⟨o, ho, hc, hd⟩, _⟩ b hb
    rcases mem2 hb with rfl | rfl
    · exact ⟨_, he, fun v q => nomatch q⟩
    · exact ⟨o, ho, fun v q => by rw [hd] at q; cases q⟩
  keep := by
    rintro i h h' ⟨⟨old, he⟩, hi, hne⟩ k
    exact ⟨⟨old, k e (by simp) _ he⟩, hi.at fun o q => k it (by simp) o q, hne⟩
  item := by
    intro X hP hw hK hc i pins s σ H E I hf st hg
    subst hP hw hK
    obtain ⟨⟨old, he⟩, hit, hne⟩ := st
    obtain ⟨xs, x, hq, hx⟩ := hg
    obtain ⟨its, rv, p, hz⟩ := I.tuple hq
    obtain ⟨u, hu, ru⟩ := rv.get hx
    have hu' : its.toArray[i]? = some u := by simpa using hu
    have hlt : i < its.toArray.size := by
      obtain ⟨h1, _⟩ := Array.getElem?_eq_some_iff.mp hu'
      exact h1
    have hT : s.heap.IsTuple a its.toArray := p
    have hel : e < s.heap.objs.size := Heap.lt_size he
    have hil : it < s.heap.objs.size := by obtain ⟨_, q, _⟩ := hit; exact Heap.lt_size q
    have D := Draws.tuple (prog := X.prog) (w := X.w) (A := X.A.in1) (I.ok.hd hc) it a hai its.toArray
    refine wpAny_pyNext_enum_itemD D he ⟨hit, hT⟩ hlt hne (fun hm => ?_) fun y g tk hy ho hst hTp hsz hk => ?_
    · rcases mem2 hm with z | z
      · exact hne z
      · exact hae z
    · obtain rfl : u = y := Option.some.inj (hu'.symm.trans hy)
      refine ⟨_, rfl, wpAny_letOwnedTupleGo_enum (s := { s with heap := g, toks := tk + 1 }) ho fun g2 he2 sb => ?_⟩
      have hT2 : g2.get? s.heap.objs.size = some { cls := .type "tuple", data := .seq #[.int i tk, u] } := (sb.2 _ (Nat.ne_of_gt hel)).trans hTp
      have new : ObjOk X.prog X.w (upd H s.heap.objs.size (.tup [.int (i : Nat), x])) g2 s.heap.objs.size (.tup [.int (i : Nat), x]) :=
        ⟨by show 2 ≤ sizeLine; decide, [.int i tk, u], .cons ⟨_, rfl⟩ (.cons ru .nil), ⟨_, hT2, rfl, _, rfl⟩⟩
      have I1 : Inv X pins σ (upd H s.heap.objs.size (.tup [.int (i : Nat), x])) { s with heap := g2, toks := tk + 1 } := by
        refine I.turnedNew (ch := [e, it]) (fun b ob hb q => ?_) hf (Nat.le_refl _) new
        have n1 : b ≠ e := fun z => hb (by simp [z])
        have n2 : b ≠ it := fun z => hb (by simp [z])
        exact (sb.2 b n1).trans (hk b ob n1 n2 q)
      refine ⟨.ref s.heap.objs.size, _, I1, rfl, ⟨_, x, rfl, I.hok.fresh (Nat.le_refl _), rfl, fun ys hy => by rw [I.tuple_inj hy hq]; exact hx⟩, ⟨⟨u, ?_⟩, hst.1.at fun o q => (sb.2 it (Ne.symm hne)).trans q, hne⟩, fun b hb => ?_⟩
      · have e1 : ((i + 1 : Nat) : Int) = (i : Int) + 1 := by omega
        rw [e1]; exact he2
      · have hlb : b < s.heap.objs.size := by rcases mem2 hb with rfl | rfl <;> assumption
        exact (upd_ne (Nat.ne_of_lt hlb)).trans (hf b hb).1
  done := by
    intro X hP hw hK hc i pins s σ H E I hf st hg
    subst hP hw hK
    obtain ⟨⟨old, he⟩, hit, hne⟩ := st
    obtain ⟨xs, hq, hx⟩ := hg
    obtain ⟨its, rv, p, hz⟩ := I.tuple hq
    obtain ⟨f0, f1, f2, f3, f4, f5⟩ := hf it (by simp)
    have hT : s.heap.IsTuple a its.toArray := p
    have hl := rv.length
    have hT2 : its.toArray[i]? = none := by simp; omega
    refine (show wpAny (model X.prog X.w) X.A (pyNext (.ref e)) _ E s from ?_)
    have hTy : s.TypeIs (.ref e) "enumerate" := ⟨_, he, rfl⟩
    unfold pyNext
    refine wpAny_bind (wpAny_attempt (wpAny_callSpecial?_slot (name := Str.ofString "__next__") hTy F.slot_enumerate_next
      (wpAny_call_entry F.slot_enumerate_next hTy F.entry_enumerate_next ?_ (F.args_enumerate_next_1 _))))
    show wpAny _ _ (field (.ref e) 2 >>= _) _ _ _
    refine wpAny_bind (wpAny_field he rfl (x := .ref it) rfl ?_)
    refine wpAny_bind (wpAny_nextOf_tuple_end (I.ok.hd hc) hit hT hT2 fun g x eb hx' => ?_)
    obtain ⟨o, ho, hcl⟩ := hx'
    refine wpAny_bind (wpAny_isInstance (T := "StopIteration") (b := true) ⟨o, ho, hcl⟩ isSubtype_stop ?_)
    exact wpAny_pure ⟨rfl, I.turned (t' := s.toks) (fun b o hb q => eb b o hb q) f0 f1 f3 f4 f5⟩
  self := by
    rintro A i s Q E ⟨⟨_, he⟩, _⟩ h
    exact wpAny_pyIter_enum he h
theorem walkE {K : PySem.W.Frag} {a : Addr} {xs : List V} : Walk (ItE K a) xs.length (fun H => SqT K H a xs) (YPair (fun i => some (.int (i : Nat))) (fun i => xs[i]?)) where
  goes := fun i _ hi q => ⟨xs, xs[i], q, by simp [hi]⟩
  stops := fun _ q => ⟨xs, q, Nat.le_refl _⟩
  yields := by
    rintro i H v H' _ q ⟨T, x, h1, h2, h3, h4⟩
    exact ⟨T, .int (i : Nat), x, h1, h2, h3, rfl, h4 xs q⟩
/-- a list or a tuple -/
def Sq (K : PySem.W.Frag) (H : Hp) (a : Addr) (xs : List V) : Prop := SqL K H a xs ∨ SqT K H a xs
/-- what was read at a is still to be read there -/
def SqK (K : PySem.W.Frag) (H H' : Hp) (a : Addr) (xs : List V) : Prop := (SqL K H a xs → SqL K H' a xs) ∧ (SqT K H a xs → SqT K H' a xs)
/-- enumerate(x), x a list or a tuple -/
def iEn (K : PySem.W.Frag) (ta : TA) : TI := fun σ H R => ta σ H fun vs H1 => ∃ a xs, vs = [.ref a] ∧ Sq K H1 a xs ∧
  ∀ J, Walk J xs.length (fun H => SqK K H1 H a xs) (YPair (fun i => some (.int (i : Nat))) (fun i => xs[i]?)) → R J H1
/-- x, a list or a tuple -/
def iSq (K : PySem.W.Frag) (tl : TE) : TI := fun σ H R => tl σ H fun x H1 => ∃ a xs, x = .ref a ∧ Sq K H1 a xs ∧
  ∀ J, Walk J xs.length (fun H => SqK K H1 H a xs) (YAt xs) → R J H1
section
variable {X : Cx}
theorem pi_en {e : Expr} {ta : TA} {p pos tpos : Pos} {elts : List Expr} {kk : Nat} (hg : Gl X "enumerate") (hm : X.mg "enumerate" = none) (ha : PA X [e] ta) (hs : starEach [e] X.env = [(false, eval e X.env)] := by rfl) :
    PI X (.Tuple elts kk tpos) (.Call (.Name "enumerate" p) [e] [] pos) (iEn X.K ta) := by
  refine ⟨fun pins s σ H R I h => Call_ (ld_blt I hg hm boot_enumerate (PyProof.Rows.callWith_type1 (thn (ha.run pos pins s σ H _ I h) fun us s1 hh => ?_) hs rfl))⟩
  obtain ⟨vs, H1, I1, r1, a, xs, rfl, hq, q⟩ := hh
  obtain ⟨u, rfl, ru⟩ := vals1 r1
  obtain rfl : u = Value.ref a := ru
  have fp : ∀ b ∈ [s1.heap.objs.size + 1, s1.heap.objs.size], FpOk X pins H1 b := fun b hb => by
    have hle : s1.heap.objs.size ≤ b := by rcases mem2 hb with rfl | rfl <;> omega
    exact I1.fpOk hle (I1.hok.fresh hle)
  rcases hq with hq | hq
  · obtain ⟨its, rv, p', hz⟩ := I1.list hq
    refine call_enumerate_list p'.isList fun g he hit hsz hk => wpAny_pyIter_enum he ?_
    exact ⟨s1.heap.objs.size + 1, [s1.heap.objs.size + 1, s1.heap.objs.size], _, _, H1, rfl, I1.kept (t' := s1.toks) hk, turn_enum a _ _, ⟨⟨.none, he⟩, hit, Nat.succ_ne_self _⟩, fp, q _ (walk_enum.mono (fun _ z => z.1 hq) fun _ _ _ _ _ _ y => y)⟩
  · obtain ⟨its, rv, p', hz⟩ := I1.tuple hq
    have hT : s1.heap.IsTuple a its.toArray := p'
    have hlt : a < s1.heap.objs.size := by obtain ⟨_, z, _⟩ := hT; exact Heap.lt_size z
    refine enumT_call hT fun g he hit hsz hk => wpAny_pyIter_enum he ?_
    exact ⟨s1.heap.objs.size + 1, [s1.heap.objs.size + 1, s1.heap.objs.size], _, _, H1, rfl, I1.kept (t' := s1.toks) hk, turnE a _ _ (Nat.ne_of_lt hlt) (Nat.ne_of_gt (Nat.lt_succ_of_lt hlt)), ⟨⟨.none, he⟩, hit, Nat.succ_ne_self _⟩, fp, q _ (walkE.mono (fun _ z => z.2 hq) fun _ _ _ _ _ _ y => y)⟩
theorem pi_sq {tg l : Expr} {tl : TE} (hl : PE X l tl) : PI X tg l (iSq X.K tl) := by
  refine ⟨fun pins s σ H R I h => thn (hl.run pins s σ H _ I h) fun v s1 hh => ?_⟩
  obtain ⟨x, H1, I1, r1, a, xs, rfl, hq, q⟩ := hh
  obtain rfl : v = Value.ref a := r1
  have fp : ∀ b ∈ [s1.heap.objs.size], FpOk X pins H1 b := fun b hb => by
    obtain rfl : b = s1.heap.objs.size := by simpa using hb
    exact I1.fpOk (Nat.le_refl _) (I1.hok.fresh (Nat.le_refl _))
  rcases hq with hq | hq
  · obtain ⟨its, rv, p, hz⟩ := I1.list hq
    exact wpAny_pyIter_list p.isList ⟨s1.heap.objs.size, [s1.heap.objs.size], _, _, H1, rfl, I1.kept (t' := s1.toks) fun _ _ z => Heap.get?_push_of_some _ z, turn_list a _, ⟨_, Heap.get?_push_size _ rfl, rfl, rfl⟩, fp, q _ (walk_list.mono (fun _ z => z.1 hq) fun _ _ _ _ _ _ y => y)⟩
  · obtain ⟨its, rv, p, hz⟩ := I1.tuple hq
    have hT : s1.heap.IsTuple a its.toArray := p
    exact wpAny_pyIter_tuple hT ⟨s1.heap.objs.size, [s1.heap.objs.size], _, _, H1, rfl, I1.kept (t' := s1.toks) fun _ _ z => Heap.get?_push_of_some _ z, turn_tuple a _, ⟨_, Heap.get?_push_size _ rfl, rfl, rfl⟩, fp, q _ (walk_tup.mono (fun _ z => z.2 hq) fun _ _ _ _ _ _ y => y)⟩
end
end Spk

namespace Spk
open PySem PySem.Spec PyProof.Rows L2
/-! ### a def that may be called -/
structure Rdy (P : Program) (w : World) (K : PySem.W.Frag) (mg : Str → Option Value) (bh : Heap) (x : Str) (k : Nat) (ps : List Str) (sp : Sp) (f : Addr) (fd : FuncData) : Prop where
  ok : FnOk P w K mg bh CX0 k f fd ps sp
  gl : mg x = some (.ref f)
  kp : PySem.W.keepIn K (.ref f) = true
  bd : Binds K fd ps []
/-- a def with defaults -/
structure RdyD (P : Program) (w : World) (K : PySem.W.Frag) (mg : Str → Option Value) (bh : Heap) (x : Str) (k : Nat) (ps : List Str) (dvs : List V) (sp : Sp) (f : Addr) (fd : FuncData) : Prop where
  ok : FnOk P w K mg bh CX0 k f fd ps sp
  gl : mg x = some (.ref f)
  kp : PySem.W.keepIn K (.ref f) = true
  bd : Binds K fd ps []
  bd1 : ∃ ds, Vals dvs ds ∧ Binds K fd ps ds
section
variable {X : Cx} {x : Str} {k j : Nat} {ps : List Str} {dvs : List V} {sp : Sp} {f : Addr} {fd : FuncData} {p pos : Pos} {e : Expr} {es : List Expr} {t : TA}
theorem pe_rdy (R : Rdy X.prog X.w X.K X.mg X.base x k ps sp f fd) (rm : Room j X.A) (hj : k ≤ j) (hg : Gl X x) (ha : PA X (e :: es) t) (hdb : (x == ("__debug__" : Str)) = false := by decide)
    (he : starEach (e :: es) X.env = (false, eval e X.env) :: starEach es X.env := by rfl) (hpl : (backTo pos (starEach es X.env)).any (·.1) = false := by rfl) :
    PE X (.Call (.Name x p) (e :: es) [] pos) (tCall sp [] E0 t) := pe_call R.ok (rm.mono hj) hg R.gl R.kp R.bd .nil pass0 ha hdb he hpl
theorem pe_rdyD (R : RdyD X.prog X.w X.K X.mg X.base x k ps dvs sp f fd) (rm : Room j X.A) (hj : k ≤ j) (hg : Gl X x) (ha : PA X (e :: es) t) (hdb : (x == ("__debug__" : Str)) = false := by decide)
    (he : starEach (e :: es) X.env = (false, eval e X.env) :: starEach es X.env := by rfl) (hpl : (backTo pos (starEach es X.env)).any (·.1) = false := by rfl) :
    PE X (.Call (.Name x p) (e :: es) [] pos) (tCall sp [] E0 t) := pe_call R.ok (rm.mono hj) hg R.gl R.kp R.bd .nil pass0 ha hdb he hpl
/-- the last argument left out -/
theorem pe_rdyD1 (R : RdyD X.prog X.w X.K X.mg X.base x k ps dvs sp f fd) (rm : Room j X.A) (hj : k ≤ j) (hg : Gl X x) (ha : PA X (e :: es) t) (hdb : (x == ("__debug__" : Str)) = false := by decide)
    (he : starEach (e :: es) X.env = (false, eval e X.env) :: starEach es X.env := by rfl) (hpl : (backTo pos (starEach es X.env)).any (·.1) = false := by rfl) :
    PE X (.Call (.Name x p) (e :: es) [] pos) (tCall sp dvs E0 t) := by
  obtain ⟨ds, hv, bd⟩ := R.bd1
  exact pe_call R.ok (rm.mono hj) hg R.gl R.kp bd hv pass0 ha hdb he hpl
/-! ### a word between a statement and what follows -/
def tMid (t u : TS) : TS := fun D σ H => ∃ M : L2.St → Hp → Prop, t { D with nx := M } σ H ∧ ∀ τ J, M τ J → u D τ J
theorem pss_mid {st : Stmt} {sts : List Stmt} {t u : TS} (a : PS X st t) (b : PSs X sts u) : PSs X (st :: sts) (tMid t u) := by
  refine ⟨fun pins s σ H D I h => h.elim fun M h => ?_⟩
  refine wpAny_execs_cons (thn (a.run pins s σ H { D with nx := M } I h.1) fun fl s1 q => ?_)
  match fl, q with
  | .next, q =>
    obtain ⟨τ, J, I', q⟩ := q
    exact b.run pins s1 τ J D I' (h.2 τ J q)
  | .ret _, q => exact q
  | .brk, q => exact q
  | .cont, q => exact q
/-- an item of a tuple, the written part named -/
theorem ix_tupK {K : PySem.W.Frag} (h : X.K = K := by rfl) : IxR X (rIxT K) := h ▸ ix_tup
theorem ix_listK {K : PySem.W.Frag} (h : X.K = K := by rfl) : IxR X (rIxL K) := h ▸ ix_list
/-! ### constants of the module, of a class -/
theorem pe_globI {i : Int} (h : ∃ t, X.mg x = some (.int i t)) (hg : Gl X x) (hd : (x == ("__debug__" : Str)) = false := by decide) : PE X (.Name x pos) (tC (.int i)) := by
  obtain ⟨t, h⟩ := h
  exact pe_glob hg h ⟨t, rfl⟩ hd
/-- the class Ends, as the top has left it -/
structure EndsT (K : PySem.W.Frag) (mg : Str → Option Value) : Prop where
  ex : ∃ (C : Addr) (mc u1 u2 : Value), mg "Ends" = some (.ref C) ∧ ClX.CRead K C mc ∧ ClX.CVal K C mc "HALF" (.str "half") u1 ∧ ClX.CVal K C mc "SHUT" (.str "shut") u2
theorem pe_half (h : EndsT X.K X.mg) (hg : Gl X "Ends") (hb : attributeBase (.Name "Ends" p) "HALF" X.env (eval (.Name "Ends" p) X.env) = eval (.Name "Ends" p) X.env := by rfl) :
    PE X (.Attribute (.Name "Ends" p) "HALF" pos) (tC (.str "half")) := by
  obtain ⟨C, mc, u1, u2, g, r, a, b⟩ := h.ex
  have q := ClX.pe_cval (X := X) (f := "HALF") (pos := pos) (pe_glob (v := .ref C) (pos := p) hg g rfl) hb
  exact ⟨fun pins s σ H R I z => q.run pins s σ H R I ⟨C, mc, _, u1, rfl, r, a, z⟩⟩
theorem pe_shut (h : EndsT X.K X.mg) (hg : Gl X "Ends") (hb : attributeBase (.Name "Ends" p) "SHUT" X.env (eval (.Name "Ends" p) X.env) = eval (.Name "Ends" p) X.env := by rfl) :
    PE X (.Attribute (.Name "Ends" p) "SHUT" pos) (tC (.str "shut")) := by
  obtain ⟨C, mc, u1, u2, g, r, a, b⟩ := h.ex
  have q := ClX.pe_cval (X := X) (f := "SHUT") (pos := pos) (pe_glob (v := .ref C) (pos := p) hg g rfl) hb
  exact ⟨fun pins s σ H R I z => q.run pins s σ H R I ⟨C, mc, _, u2, rfl, r, b, z⟩⟩
end

/-! ### defs with defaults, calls by keywords alone -/
section
variable {P : Program} {w : World} {K : PySem.W.Frag} {mg : Str → Option Value} {bh : Heap} {x qu : Str} {st : Stmt} {dvs : List V} {f : Addr} {fd : FuncData} {N ps : List Str} {k : Nat} {sp : Sp}
theorem okD (F : FunD K x qu (defArgs st) (defBody st) (defScope st) dvs [] f fd) (S : FnScope N ps (defScope st)) (ln : ∀ vs H Q E, sp vs H Q E → vs.length = ps.length)
    (hb : ∀ (cv : Value) (B : Around) (ou : List Env) (t : Shared) (J : Hp) (ws : List V) (R : VK) (U : XK), Room k (B.deeper (envOfC qu (defScope st) t.heap.objs.size f cv)) → sp ws J R U →
      ∃ tr, PSs (cxOf CX0 P w K mg bh N qu (defScope st) f cv B ou t J U).nox (defBody st) tr ∧ tr { nx := fun _ J' => R .non J', rt := R } (L2.start N ws) J) :
    FnOk P w K mg bh CX0 (k + 1) f fd ps sp := F.ok S ln fun cv B ou t J ws R U rm h => by
  obtain ⟨tr, q, z⟩ := hb cv B ou t J ws R U rm h
  exact ⟨tr, q.nox, z⟩
theorem bindsFull (F : FunD K x qu (defArgs st) (defBody st) (defScope st) dvs [] f fd) (hd : dvs ≠ [])
    (h : ∀ (T : Addr) (kV dc pm : Value) (an : Option Addr) (cv ct : Value) (us its : List Value), us.length = ps.length → its.length = dvs.length →
      ∃ kk, bindArgs (PySem.W.fnOf x qu (defArgs st) (defBody st) (defScope st) (.ref T) kV dc pm an cv ct) ⟨us, []⟩ = seqItems? (.ref T) >>= kk ∧ kk (some its.toArray) = pure (ps.zip us)) : Binds K fd ps [] := by
  obtain ⟨ds, hv, bd⟩ := FunD.binds1 (ps := ps) F ps.length dvs.length hd (by omega) fun T kV dc pm an cv ct us its h1 h2 => by
    obtain ⟨kk, e1, e2⟩ := h T kV dc pm an cv ct us its h1 h2
    have : its.drop dvs.length = [] := List.drop_eq_nil_of_le (by omega)
    rw [this, List.append_nil]
    exact ⟨kk, e1, e2⟩
  have e : dvs.drop dvs.length = [] := List.drop_eq_nil_of_le (Nat.le_refl _)
  rw [e] at hv
  cases hv
  exact bd
theorem kwAll (F : FunD K x qu (defArgs st) (defBody st) (defScope st) dvs [] f fd) (ks : List Str) (g : {α : Type} → List α → List α) (hd : dvs ≠ []) (hrel : ∀ {zs : List V} {ws : List Value}, Vals zs ws → Vals (g zs) (g ws))
    (h : ∀ (T : Addr) (kV dc pm : Value) (an : Option Addr) (cv ct : Value) (its ws : List Value), its.length = dvs.length → ws.length = ks.length →
      ∃ kk, bindArgs (PySem.W.fnOf x qu (defArgs st) (defBody st) (defScope st) (.ref T) kV dc pm an cv ct) ⟨[], ks.zip ws⟩ = seqItems? (.ref T) >>= kk ∧ kk (some its.toArray) = pure (ps.zip (g ws))) :
    KBn K fd ps 0 ks (fun _ ws => g ws) (fun _ zs => g zs) := by
  obtain ⟨oc, od, dV, kV, dc, pm, an, cv, ct, sl, rfl, lk, hcd, hD, hK⟩ := F.ex
  rcases hD with ⟨e, _⟩ | ⟨_, T, o, its, m, rfl, lT, oT, rT⟩
  · exact absurd e hd
  · refine ⟨fun s us ws X l1 l2 => ?_, fun _ r2 => hrel r2⟩
    obtain rfl : us = [] := List.length_eq_zero_iff.mp l1
    obtain ⟨kk, e1, e2⟩ := h T kV dc pm an cv ct its ws rT.length.symm l2
    refine BindsTo.of_looks fun M => ?_
    rw [e1]
    exact looks_items X lT oT (.of_pure e2)
end
section
variable {X : Cx} {k j : Nat} {f : Addr} {fd : FuncData} {ps ks : List Str} {sp : Sp} {x : Str} {p pos : Pos} {kws : List Keyword} {tk : TA} {g : List Value → List Value → List Value} {gV : List V → List V → List V}
/-- f(k = v, ..) without a positional argument -/
theorem pe_kw0 (F : FnOk X.prog X.w X.K X.mg X.base CX0 k f fd ps sp) (rm : Room j X.A) (hj : k ≤ j) (hg : Gl X x) (hm : X.mg x = some (.ref f)) (hk : PySem.W.keepIn X.K (.ref f) = true) (hb : KBn X.K fd ps 0 ks g gV) (hkw : PK X kws tk)
    (hall : (backToKw pos (keywordEach kws X.env)).all (·.1.isSome) = true := by rfl) (hks : (backToKw pos (keywordEach kws X.env)).filterMap (·.1) = ks := by rfl) (hdb : (x == ("__debug__" : Str)) = false := by decide)
    (hpl : ((backTo pos (starEach [] X.env)).any (·.1) || (backToKw pos (keywordEach kws X.env)).any (·.1.isNone)) = false := by rfl) :
    PE X (.Call (.Name x p) [] kws pos) (tCallN 0 ks.length sp gV E0 tNil tk) := by
  refine ⟨fun pins s σ H Q I h => wpAny_Call_Name_kw (ld_glob I hg hm ?_ hdb)⟩
  refine PySem.W.callWith_KW0 (h₀ := X.base) I.ok.mod.kin hk hall (thn (hkw.run pos pins s σ H _ I h) fun ws s2 hh => ?_) hpl
  obtain ⟨zs, H2, I2, rz, l1, l2, q2⟩ := hh
  refine ⟨I2.kIn, ?_⟩
  rw [hks]
  exact run_fnN (us := []) (vs := []) F (rm.mono hj) hb pass0 I2 .nil rz rfl l2 q2
end
/-! ### heaps -/
theorem SqL.hp {K : PySem.W.Frag} {H : Hp} {a : Addr} {xs : List V} (h : H a = some (.lst xs)) : SqL K H a xs := .inl (.inl h)
theorem SqT.hp {K : PySem.W.Frag} {H : Hp} {a : Addr} {xs : List V} (h : H a = some (.tup xs)) : SqT K H a xs := .inl (.inl h)
/-- all that was tracked, but for what stands at p, is as it was -/
def Kp (p : Addr) (H H' : Hp) : Prop := ∀ b o, b ≠ p → H b = some o → H' b = some o
theorem Kp.refl {p : Addr} {H : Hp} : Kp p H H := fun _ _ _ h => h
theorem Kp.trans {p : Addr} {H H1 H2 : Hp} (a : Kp p H H1) (b : Kp p H1 H2) : Kp p H H2 := fun c o n h => b c o n (a c o n h)
theorem Kp.same {p : Addr} {H H' : Hp} (a : Same H H') : Kp p H H' := fun c o _ h => a c o h
theorem Kp.new {p q : Addr} {H : Hp} {o : HO} (h : H q = none) : Kp p H (upd H q o) := fun b u _ e => by rw [upd_ne (ne_of_none e h)]; exact e
theorem Kp.at_ {p : Addr} {H : Hp} {o : HO} : Kp p H (upd H p o) := fun b u n e => by rw [upd_ne n]; exact e
theorem Same.new {q : Addr} {H : Hp} {o : HO} (h : H q = none) : Same H (upd H q o) := fun b u e => by rw [upd_ne (ne_of_none e h)]; exact e
theorem Same.free' {H H' : Hp} (s : Same H H') {l : Addr} (h : H' l = none) : H l = none := Same.free s h
theorem sameT {K : PySem.W.Frag} {H H' : Hp} {a : Addr} {xs : List V} (e : Same H H') (h : SqT K H a xs) : SqT K H' a xs := by
  rcases h with (h | ⟨o, h⟩) | h
  · exact .inl (.inl (e _ _ h))
  · exact .inl (.inr ⟨o, e _ _ h⟩)
  · exact .inr h
theorem sameK {K : PySem.W.Frag} {H H' : Hp} {a : Addr} {xs : List V} (e : Same H H') : SqK K H H' a xs := ⟨e.seq, sameT e⟩
theorem sameQ {K : PySem.W.Frag} {H H' : Hp} {a : Addr} {xs : List V} (e : Same H H') (h : Sq K H a xs) : Sq K H' a xs := h.imp e.seq (sameT e)
theorem kpL {K : PySem.W.Frag} {p : Addr} {H H' : Hp} {a : Addr} {xs : List V} (e : Kp p H H') (n : a ≠ p) (h : SqL K H a xs) : SqL K H' a xs := by
  rcases h with (h | ⟨o, h⟩) | h
  · exact .inl (.inl (e _ _ n h))
  · exact .inl (.inr ⟨o, e _ _ n h⟩)
  · exact .inr h
mutual
theorem sameD {K : PySem.W.Frag} {H H' : Hp} (e : Same H H') : ∀ (d : PyData) {v : V}, Dp K H v d → Dp K H' v d
  | .none, _, h => by cases h; exact .non
  | .bool b, _, h => by cases h; exact .bl b
  | .int i, _, h => by cases h; exact .int i
  | .str x, _, h => by cases h; exact .str x
  | .list ds, _, h => by
    cases h with
    | lst q r => exact .lst (e.seq q) (sameDs e ds r)
  | .tuple ds, _, h => by
    cases h with
    | tup q r => exact .tup (sameT e q) (sameDs e ds r)
  | .dict _, _, h => by cases h
theorem sameDs {K : PySem.W.Frag} {H H' : Hp} (e : Same H H') : ∀ (ds : List PyData) {vs : List V}, DpAll K H vs ds → DpAll K H' vs ds
  | [], _, h => by cases h; exact .nil
  | d :: ds, _, h => by
    cases h with
    | cons a b => exact .cons (sameD e d a) (sameDs e ds b)
end
end Spk

namespace Spk
open PySem PySem.Spec PyProof.Rows L2
section
variable {X : Cx} {e : Expr} {te : TE} {p2 pos q1 q2 : Pos} {j : Nat}
/-- xs[::-1] of a list: a new list -/
theorem pe_rev (he : PE X e te) : PE X (.Subscript e (.Slice none none (some (.UnaryOp .USub (.Constant (.int 1) j q1) q2)) p2) pos)
    (fun σ H Q => te σ H fun x H1 => ∃ a xs, x = .ref a ∧ SqL X.K H1 a xs ∧ ∀ p, H1 p = none → Q (.ref p) (upd H1 p (.lst xs.reverse))) := by
  refine ⟨fun pins s σ H Q I h => ?_⟩
  refine Subscript_ (thn (he.run pins s σ H _ I h) fun v s1 ⟨x, H1, I1, r1, q1'⟩ => ?_)
  refine wpAny_Slice ?_
  rw [evalPart_none]
  refine wpAny_pure (wpAny_pure ?_)
  have hk : PO X (some (.UnaryOp .USub (.Constant (.int 1) j q1) q2)) _ := po_some (pe_un un_neg pe_int)
  refine thn (hk.run pins s1 σ H1 (fun k H2 => k = some (-1) ∧ ∃ a xs, x = .ref a ∧ SqL X.K H2 a xs ∧ ∀ p, H2 p = none → Q (.ref p) (upd H2 p (.lst xs.reverse))) I1 ⟨_, rfl, _, rfl, rfl, q1'⟩) fun vk s3 ⟨k, H3, I3, pk, ek, a, xs, ex, hx, q⟩ => ?_
  subst ek
  subst ex
  obtain rfl : v = Value.ref a := r1
  have I4 : Inv X pins σ H3 { s3 with heap := s3.heap.push { cls := .type "slice", data := .fields #[.none, .none, vk] } } := I3.kept (t' := s3.toks) fun b ob q => Heap.get?_push_of_some _ q
  show wpAny (model X.prog X.w) X.A (subscriptTail e (.Slice none none (some (.UnaryOp .USub (.Constant (.int 1) j q1) q2)) p2) (.ref a) (.ref s3.heap.objs.size)) (EP X pins σ Q) X.xe { s3 with heap := s3.heap.push { cls := .type "slice", data := .fields #[.none, .none, vk] } }
  obtain ⟨its, r, ht, hz⟩ := I4.list hx
  have hlen := r.length
  refine tail_any (ops := [.ref a, .ref s3.heap.objs.size]) ht.isList.typeIs slot_list_getitem.lookup ?_ (by with_unfolding_all rfl)
  refine wpAny_getItem_list_slice ht.isList (Heap.IsSliceOf.new ..) .none .none pk (by decide) ?_ (by rw [List.size_toArray] <;> omega)
  rw [PySem.W.krv_pick]
  refine ⟨.ref _, _, I4.laid (t' := s3.toks) (o := .lst xs.reverse) (fun b ob q => Heap.get?_push_of_some _ q) (Nat.le_refl _) ?_, rfl, q _ (I4.hok.fresh (Nat.le_refl _))⟩
  refine ⟨by rw [List.length_reverse]; exact hz, its.reverse, 0, ?_, ?_⟩
  · have : ∀ {zs : List V} {ws : List Value} {as : List V} {bs : List Value}, Vals zs ws → Vals as bs → Vals (zs.reverseAux as) (ws.reverseAux bs) := by
      intro zs
      induction zs with
      | nil => intro ws as bs h k; cases h; exact k
      | cons z zs ih =>
        intro ws as bs h k
        cases h with
        | @cons _ u _ us a b =>
          show Vals (zs.reverseAux (z :: as)) (us.reverseAux (u :: bs))
          exact ih b (.cons a k)
    exact this r .nil
  · exact Heap.get?_push_size _ rfl
end
end Spk

namespace Spk
open PySem PySem.Spec PyProof.Rows L2
/-! ### any objects, as data -/
def isNum : PyData → Bool
  | .int _ => true
  | _ => false
def intish : PyData → Bool
  | .int _ => true
  | .bool _ => true
  | _ => false
def boolish : PyData → Bool
  | .bool _ => true
  | _ => false
def tupish : PyData → Bool
  | .tuple _ => true
  | _ => false
def tyN : PyData → String
  | .none => "NoneType"
  | .bool _ => "bool"
  | .int _ => "int"
  | .str _ => "str"
  | .list _ => "list"
  | .tuple _ => "tuple"
  | .dict _ => "dict"
def edgeI (i : Int) : Bool := (decide (-1000000000000000000000000000000 ≤ i) && decide (i ≤ 1000000000000000000000000000000)) || (decide (i = -10000000000000000000000000000000) || decide (i = 10000000000000000000000000000000))
def isEdge : PyData → Bool
  | .int i => edgeI i
  | _ => false
def isPair : PyData → Bool
  | .tuple [a, b] => isEdge a && isEdge b
  | _ => false
def strP (p : Pr) : Bool := edgeI p.1 && edgeI p.2 && (decide (p.1 ≤ p.2) && (decide (p.1 < 10000000000000000000000000000000) && decide (-10000000000000000000000000000000 < p.2)))
/-- the data of a pair -/
def prD (p : Pr) : PyData := .tuple [.int p.1, .int p.2]
def isStr : PyData → Bool
  | .tuple [.int a, .int b] => strP (a, b)
  | _ => false
section
variable {K : PySem.W.Frag} {H : Hp} {v : V} {d : PyData}
theorem dpTy (h : Dp K H v d) : TyX K H v (.type (tyN d)) := by
  cases h with
  | non => exact .base .non
  | bl b => exact .base (.bl b)
  | int i => exact .base (.int i)
  | str x => exact .base (.str x)
  | lst q r =>
    rcases q with (q | ⟨o, q⟩) | ⟨o, its, n, q, c, _⟩
    · exact .base (.lst q)
    · exact .base (.frz q)
    · exact .kList q c
  | tup q r =>
    rcases q with (q | ⟨o, q⟩) | ⟨o, its, n, q, c, _⟩
    · exact .base (.tup q)
    · exact .fTuple q
    · exact .kTuple q c
theorem kitInt (d : PyData) : kitB (tyN d) "int" = some (intish d) := by cases d <;> simp only [tyN, intish] <;> decide +kernel
theorem kitBool (d : PyData) : kitB (tyN d) "bool" = some (boolish d) := by cases d <;> simp only [tyN, boolish] <;> decide +kernel
theorem kitTup (d : PyData) : kitB (tyN d) "tuple" = some (tupish d) := by cases d <;> simp only [tyN, tupish] <;> decide +kernel
theorem isNum_eq (d : PyData) : isNum d = (intish d && !boolish d) := by cases d <;> rfl
end
theorem inV2 (i a b : Int) : inV (.int i) [.int a, .int b] = (decide (i = a) || decide (i = b)) := by
  have e : ∀ a : Int, eqV (.int a) (.int i) = decide (i = a) := fun a => by
    show (a == i) = decide (i = a)
    by_cases h : i = a
    · rw [h, decide_eq_true rfl]; exact beq_self_eq_true a
    · rw [decide_eq_false h]; exact beq_eq_false_iff_ne.mpr (Ne.symm h)
  show (eqV (.int a) (.int i) || (eqV (.int b) (.int i) || false)) = _
  rw [e, e, Bool.or_false]
theorem dpAll_len {K : PySem.W.Frag} {H : Hp} : ∀ {vs : List V} {ds : List PyData}, DpAll K H vs ds → vs.length = ds.length
  | _, _, .nil => rfl
  | _, _, .cons _ t => congrArg Nat.succ (dpAll_len t)
theorem tup_of {K : PySem.W.Frag} {H : Hp} {v : V} {d : PyData} (h : Dp K H v d) (c : tupish d = true) : ∃ a xs ds, v = .ref a ∧ d = .tuple ds ∧ SqT K H a xs ∧ DpAll K H xs ds := by
  cases h with
  | tup sq da => exact ⟨_, _, _, rfl, rfl, sq, da⟩
  | _ => cases c
theorem int_of {K : PySem.W.Frag} {H : Hp} {v : V} {d : PyData} (h : Dp K H v d) (c : isNum d = true) : ∃ i, v = .int i ∧ d = .int i := by
  cases h with
  | int i => exact ⟨i, rfl, rfl⟩
  | _ => cases c
theorem dpAll2 {K : PySem.W.Frag} {H : Hp} {xs : List V} {ds : List PyData} (h : DpAll K H xs ds) (l : xs.length = 2) : ∃ x y d1 d2, xs = [x, y] ∧ ds = [d1, d2] ∧ Dp K H x d1 ∧ Dp K H y d2 := by
  cases h with
  | nil => simp at l
  | cons h1 h =>
    cases h with
    | nil => simp at l
    | cons h2 h =>
      cases h with
      | nil => exact ⟨_, _, _, _, rfl, rfl, h1, h2⟩
      | cons _ _ => simp at l
theorem dpPr {K : PySem.W.Frag} {H : Hp} {v : V} {a b : Int} (h : Dp K H v (.tuple [.int a, .int b])) : ∃ p, v = .ref p ∧ SqT K H p [.int a, .int b] := by
  cases h with
  | tup sq da =>
    cases da with
    | cons h1 h =>
      cases h with
      | cons h2 h =>
        cases h; cases h1; cases h2
        exact ⟨_, rfl, sq⟩
theorem isPair_len {ds : List PyData} (h : ds.length ≠ 2) : isPair (.tuple ds) = false := by
  unfold isPair
  split
  · rename_i e
    cases e
    exact absurd rfl h
  · rfl
theorem isPair_not {d : PyData} (h : ¬ tupish d = true) : isPair d = false := by
  cases d with
  | tuple _ => exact absurd rfl h
  | _ => rfl
theorem isEdge_not {d : PyData} (h : ¬ isNum d = true) : isEdge d = false := by
  cases d with
  | int _ => exact absurd rfl h
  | _ => rfl
theorem edge_of {d : PyData} (h : isEdge d = true) : ∃ a, d = .int a ∧ edgeI a = true := by
  unfold isEdge at h
  split at h
  · exact ⟨_, rfl, h⟩
  · cases h
theorem pair_of {d : PyData} (h : isPair d = true) : ∃ a b, d = .tuple [.int a, .int b] ∧ edgeI a = true ∧ edgeI b = true := by
  unfold isPair at h
  split at h
  · rw [Bool.and_eq_true] at h
    obtain ⟨a, rfl, ha⟩ := edge_of h.1
    obtain ⟨b, rfl, hb⟩ := edge_of h.2
    exact ⟨a, b, rfl, ha, hb⟩
  · cases h
theorem isStr_not {d : PyData} (h : ¬ isPair d = true) : isStr d = false := by
  unfold isStr
  split
  · rename_i a b
    have : (edgeI a && edgeI b) = false := by
      rw [← Bool.not_eq_true]
      exact h
    unfold strP
    rw [this, Bool.false_and]
  · rfl
theorem str_of {d : PyData} (h : isStr d = true) : ∃ a b, d = prD (a, b) ∧ strP (a, b) = true := by
  unfold isStr at h
  split at h
  · exact ⟨_, _, rfl, h⟩
  · cases h
/-- refs to tuples of two ints -/
def Pd (H : Hp) : List Addr → List Pr → Prop
  | [], [] => True
  | t :: ts, p :: ps => H t = some (.tup [.int p.1, .int p.2]) ∧ Pd H ts ps
  | _, _ => False
theorem Pd.len {H : Hp} : ∀ {ts : List Addr} {ps : List Pr}, Pd H ts ps → ts.length = ps.length
  | [], [], _ => rfl
  | t :: ts, p :: ps, h => by simp [Pd.len h.2]
  | [], _ :: _, h => h.elim
  | _ :: _, [], h => h.elim
theorem Pd.same {H H' : Hp} (e : Same H H') : ∀ {ts : List Addr} {ps : List Pr}, Pd H ts ps → Pd H' ts ps
  | [], [], _ => trivial
  | t :: ts, p :: ps, h => ⟨e _ _ h.1, Pd.same e h.2⟩
  | [], _ :: _, h => h.elim
  | _ :: _, [], h => h.elim
/-- what changes is no tuple -/
theorem Pd.kp {q : Addr} {H H' : Hp} (e : Kp q H H') (hq : ∀ xs, H q ≠ some (.tup xs)) : ∀ {ts : List Addr} {ps : List Pr}, Pd H ts ps → Pd H' ts ps
  | [], [], _ => trivial
  | t :: ts, p :: ps, h => ⟨e _ _ (fun z => hq _ (z ▸ h.1)) h.1, Pd.kp e hq h.2⟩
  | [], _ :: _, h => h.elim
  | _ :: _, [], h => h.elim
theorem Pd.get {H : Hp} : ∀ {ts : List Addr} {ps : List Pr}, Pd H ts ps → ∀ {i : Nat} {t : Addr}, ts[i]? = some t → ∃ p, ps[i]? = some p ∧ H t = some (.tup [.int p.1, .int p.2])
  | [], [], _, i, t, h => by simp at h
  | t :: ts, p :: ps, h, 0, t', e => by
    simp at e; subst e
    exact ⟨p, rfl, h.1⟩
  | t :: ts, p :: ps, h, i + 1, t', e => by
    obtain ⟨q, h1, h2⟩ := Pd.get h.2 (i := i) (t := t') (by simpa using e)
    exact ⟨q, by simpa using h1, h2⟩
  | [], _ :: _, h, _, _, _ => h.elim
  | _ :: _, [], h, _, _, _ => h.elim
theorem Pd.app {H : Hp} : ∀ {ts : List Addr} {ps : List Pr} {us : List Addr} {qs : List Pr}, Pd H ts ps → Pd H us qs → Pd H (ts ++ us) (ps ++ qs)
  | [], [], _, _, _, h => h
  | t :: ts, p :: ps, _, _, h, k => ⟨h.1, Pd.app h.2 k⟩
  | [], _ :: _, _, _, h, _ => h.elim
  | _ :: _, [], _, _, h, _ => h.elim
theorem Pd.set {H : Hp} : ∀ {ts : List Addr} {ps : List Pr} (i : Nat) {t : Addr} {p : Pr}, Pd H ts ps → H t = some (.tup [.int p.1, .int p.2]) → Pd H (ts.set i t) (ps.set i p)
  | [], [], _, _, _, h, _ => h
  | t :: ts, p :: ps, 0, _, _, h, k => ⟨k, h.2⟩
  | t :: ts, p :: ps, i + 1, _, _, h, k => ⟨h.1, Pd.set i h.2 k⟩
  | [], _ :: _, _, _, _, h, _ => h.elim
  | _ :: _, [], _, _, _, h, _ => h.elim
theorem Pd.dp {K : PySem.W.Frag} {H : Hp} : ∀ {ts : List Addr} {ps : List Pr}, Pd H ts ps → DpAll K H (ts.map V.ref) (ps.map prD)
  | [], [], _ => .nil
  | t :: ts, p :: ps, h => .cons (.tup (SqT.hp h.1) (.cons (.int _) (.cons (.int _) .nil))) (Pd.dp h.2)
  | [], _ :: _, h => h.elim
  | _ :: _, [], h => h.elim
/-- the draws of a law -/
def BagAt (H : Hp) (p : Addr) (c : Int) : Prop := ∃ b0 b1 b2 b3 : Int, H p = some (.lst [.int b0, .int b1, .int b2, .int b3]) ∧ 0 ≤ b0 ∧ 0 ≤ b1 ∧ b1 < 2305843009213693951 ∧ 0 ≤ b2 ∧ b2 ≤ 1073741824 ∧ 0 ≤ b3 ∧ b3 ≤ c
theorem BagAt.mono {H : Hp} {p : Addr} {c d : Int} (h : BagAt H p c) (e : c ≤ d) : BagAt H p d := by
  obtain ⟨b0, b1, b2, b3, h0, h1, h2, h3, h4, h5, h6, h7⟩ := h
  exact ⟨b0, b1, b2, b3, h0, h1, h2, h3, h4, h5, h6, by omega⟩
theorem BagAt.same {H H' : Hp} {p : Addr} {c : Int} (h : BagAt H p c) (e : Same H H') : BagAt H' p c := by
  obtain ⟨b0, b1, b2, b3, h0, h1⟩ := h
  exact ⟨b0, b1, b2, b3, e _ _ h0, h1⟩
theorem BagAt.lst {H : Hp} {p : Addr} {c : Int} (h : BagAt H p c) : ∃ xs, H p = some (.lst xs) := by
  obtain ⟨b0, b1, b2, b3, h0, h1⟩ := h
  exact ⟨_, h0⟩
/-- all but the bag at p is as it was, what was free too -/
def But (p : Addr) (H H' : Hp) : Prop := ∀ b, b ≠ p → H' b = H b
theorem But.kp {p : Addr} {H H' : Hp} (h : But p H H') : Kp p H H' := fun b o n e => (h b n).trans e
theorem But.trans {p : Addr} {H H1 H2 : Hp} (a : But p H H1) (b : But p H1 H2) : But p H H2 := fun c n => (b c n).trans (a c n)
theorem But.refl {p : Addr} {H : Hp} : But p H H := fun _ _ => rfl
theorem lgDiv {i m : Int} (h0 : 0 < m) (h : m ≤ 1000000000000000000000000000000000000000000000) : CDivW i m :=
  wide_div (b := 200) h0 (by omega) (by decide) (by decide)
theorem vals_rev2 {zs : List V} {ws : List Value} (r : Vals zs ws) : Vals zs.reverse ws.reverse := by
  have : ∀ {zs : List V} {ws : List Value} {as : List V} {bs : List Value}, Vals zs ws → Vals as bs → Vals (zs.reverseAux as) (ws.reverseAux bs) := by
    intro zs
    induction zs with
    | nil => intro ws as bs h k; cases h; exact k
    | cons z zs ih =>
      intro ws as bs h k
      cases h with
      | @cons _ u _ us a b =>
        show Vals (zs.reverseAux (z :: as)) (us.reverseAux (u :: bs))
        exact ih b (.cons a k)
  exact this r .nil
end Spk
namespace Spk
open PySem PySem.Spec PyProof.Rows L2
theorem eqvAllPs : ∀ ps qs : List Pr, PyData.eqvAll (ps.map prD) (qs.map prD) = decide (ps = qs)
  | [], [] => rfl
  | p :: ps, [] => rfl
  | [], q :: qs => rfl
  | p :: ps, q :: qs => by
    show (((p.1 == q.1) && ((p.2 == q.2) && true)) && PyData.eqvAll (ps.map prD) (qs.map prD)) = decide (p :: ps = q :: qs)
    rw [eqvAllPs ps qs]
    obtain ⟨a, b⟩ := p
    obtain ⟨c, d⟩ := q
    by_cases h1 : a = c <;> by_cases h2 : b = d <;> by_cases h3 : ps = qs <;> simp [h1, h2, h3]
theorem eqvPs (ps qs : List Pr) : PyData.eqv (.list (ps.map prD)) (.list (qs.map prD)) = decide (ps = qs) := eqvAllPs ps qs
theorem canLayPs : ∀ ps : List Pr, PyData.canLayAll0 (ps.map prD) = true
  | [] => rfl
  | p :: ps => by
    show (PyData.canLay0 (prD p) && PyData.canLayAll0 (ps.map prD)) = true
    rw [canLayPs ps]; rfl
theorem depthPs : ∀ ps : List Pr, PyData.depthAll (ps.map prD) ≤ 1
  | [] => Nat.zero_le _
  | p :: ps => by
    show max (PyData.depth (prD p)) (PyData.depthAll (ps.map prD)) ≤ 1
    exact Nat.max_le.mpr ⟨by show PyData.depth (.tuple [.int p.1, .int p.2]) ≤ 1; simp [PyData.depth, PyData.depthAll], depthPs ps⟩
theorem shapedPs (ps : List Pr) : SeqAt.shaped (.list (ps.map prD)) = true := by
  have h1 : PyData.canLay0 (.list (ps.map prD)) = true := canLayPs ps
  have h2 : PyData.depth (.list (ps.map prD)) ≤ 64 := by
    have := depthPs ps
    simp only [PyData.depth]; omega
  unfold SeqAt.shaped
  rw [h1, decide_eq_true h2]; rfl
theorem dpAll_get {K : PySem.W.Frag} {H : Hp} : ∀ {xs : List V} {ds : List PyData}, DpAll K H xs ds → ∀ {i : Nat} {x : V}, xs[i]? = some x → ∃ d, d ∈ ds ∧ Dp K H x d
  | _, _, .nil, i, x, h => by simp at h
  | _, _, .cons a t, 0, x, h => by
    simp at h; subst h
    exact ⟨_, List.mem_cons_self, a⟩
  | _, _, .cons a t, i + 1, x, h => by
    obtain ⟨d, h1, h2⟩ := dpAll_get t (i := i) (x := x) (by simpa using h)
    exact ⟨d, List.mem_cons_of_mem _ h1, h2⟩
def endsV (z : Bool) : V := if z then .str "shut" else .str "half"
theorem endsV_shut (z : Bool) : decide (endsV z = .str "shut") = z := by cases z <;> decide +kernel
theorem endsV_half (z : Bool) : decide (endsV z = .str "half") = !z := by cases z <;> decide +kernel
theorem endsV_scal (z : Bool) : scal (endsV z) (.str "shut") = true := by cases z <;> rfl
theorem endsV_scalH (z : Bool) : scal (endsV z) (.str "half") = true := by cases z <;> rfl
theorem strP_le {p : Pr} (h : strP p = true) : p.1 ≤ p.2 := by
  unfold strP at h
  simp only [Bool.and_eq_true, decide_eq_true_eq] at h
  exact h.2.1
theorem map_get {α β : Type} {f : α → β} {l : List α} {i : Nat} {y : β} (h : (l.map f)[i]? = some y) : ∃ x, l[i]? = some x ∧ y = f x := by
  rw [List.getElem?_map] at h
  cases e : l[i]? with
  | none => rw [e] at h; cases h
  | some x => rw [e] at h; exact ⟨x, rfl, (Option.some.inj h).symm⟩
theorem take_more {α : Type} {l : List α} {i : Nat} {x : α} (h : l[i]? = some x) : l.take (i + 1) = l.take i ++ [x] := by
  rw [List.take_add_one, h]; rfl
theorem stepJ_len (l : List Pr) (s : List Pr × Pr) : ((l.foldl stepJ s).1).length ≤ s.1.length + l.length := by
  induction l generalizing s with
  | nil => exact Nat.le_refl _
  | cons p r ih =>
    have h := ih (stepJ s p)
    have : (stepJ s p).1.length ≤ s.1.length + 1 := by unfold stepJ; split <;> simp
    simp only [List.foldl_cons, List.length_cons]; omega
theorem stepJ_len0 (l : List Pr) (p : Pr) : ((l.foldl stepJ ([], p)).1).length ≤ l.length := by
  have := stepJ_len l ([], p)
  simpa using this
end Spk
namespace Spk
open PySem PySem.Spec PyProof.Rows L2
/-- the pair that a ref's tuple holds -/
def kOf (H : Hp) : V → Int × Int
  | .ref t => match H t with
    | some (.tup [.int a, .int b]) => (a, b)
    | _ => (0, 0)
  | _ => (0, 0)
theorem kOf_at {H : Hp} {t : Addr} {p : Pr} (h : H t = some (.tup [.int p.1, .int p.2])) : kOf H (.ref t) = p := by
  show (match H t with | some (.tup [.int a, .int b]) => (a, b) | _ => (0, 0)) = p
  rw [h]
theorem Pd.map {H : Hp} : ∀ {ts : List Addr} {ps : List Pr}, Pd H ts ps → (ts.map V.ref).map (kOf H) = ps
  | [], [], _ => rfl
  | t :: ts, p :: ps, h => by
    show kOf H (.ref t) :: (ts.map V.ref).map (kOf H) = p :: ps
    rw [kOf_at h.1, Pd.map h.2]
  | [], _ :: _, h => h.elim
  | _ :: _, [], h => h.elim
theorem Pd.all {H : Hp} : ∀ {ts : List Addr} {ps : List Pr}, Pd H ts ps → ∀ x ∈ ts.map V.ref, ∃ t, x = V.ref t ∧ H t = some (.tup [.int (kOf H x).1, .int (kOf H x).2])
  | [], [], _, x, hx => by simp at hx
  | t :: ts, p :: ps, h, x, hx => by
    rcases List.mem_cons.mp (show x ∈ V.ref t :: ts.map V.ref from hx) with e | hx
    · exact ⟨t, e, by rw [e, kOf_at h.1]; exact h.1⟩
    · exact Pd.all h.2 x hx
  | [], _ :: _, h, _, _ => h.elim
  | _ :: _, [], h, _, _ => h.elim
theorem refs_of {H : Hp} : ∀ {ys : List V}, (∀ x ∈ ys, ∃ t, x = V.ref t ∧ H t = some (.tup [.int (kOf H x).1, .int (kOf H x).2])) → ∃ us, ys = us.map V.ref ∧ Pd H us (ys.map (kOf H))
  | [], _ => ⟨[], rfl, trivial⟩
  | y :: ys, h => by
    obtain ⟨t, e, ht⟩ := h y (by simp)
    obtain ⟨us, e2, pd⟩ := refs_of (ys := ys) fun x hx => h x (by simp [hx])
    exact ⟨t :: us, by rw [e, e2]; rfl, ht, pd⟩
theorem ltP_ple {k : V → Int × Int} {x y : V} (h : ltP k y x = false) : ple (k x) (k y) := by
  have h2 : ¬ (SrtO.lexB (k y) (k x) = true) := by rw [show SrtO.lexB (k y) (k x) = false from h]; decide
  rw [SrtO.lexB_iff] at h2
  unfold ple
  omega
/-- sorted of refs to pairs -/
theorem sorted_refs {H : Hp} {ts : List Addr} {ps : List Pr} {ys : List V} (pd : Pd H ts ps) (hs : SrtO.Srtd (ltP (kOf H)) ys) (hb : SrtO.Stb (ltP (kOf H)) ys (ts.map V.ref)) :
    ∃ us, ys = us.map V.ref ∧ Pd H us (srt ps) := by
  obtain ⟨us, e, pu⟩ := refs_of (H := H) (ys := ys) fun x hx => pd.all x (hb.perm.mem_iff.mp hx)
  have hp : (ys.map (kOf H)).Perm ps := by
    have := hb.perm.map (kOf H)
    rwa [pd.map] at this
  have hso : (ys.map (kOf H)).Pairwise ple := List.pairwise_map.mpr (hs.imp fun h => ltP_ple h)
  have e2 : ys.map (kOf H) = srt ps := sorted_uniq hso (srt_sorted ps) (hp.trans (srt_perm ps).symm)
  exact ⟨us, e, e2 ▸ pu⟩
end Spk
namespace Spk
open PySem PySem.Spec PyProof.Rows L2
theorem gapd_iff : ∀ {l : List Pr}, gapd l = true ↔ ∀ i p q, l[i]? = some p → l[i + 1]? = some q → p.2 < q.1
  | [] => ⟨fun _ i p q h _ => by simp at h, fun _ => rfl⟩
  | [x] => ⟨fun _ i p q _ h => by simp at h, fun _ => rfl⟩
  | x :: y :: r => by
    have ih := gapd_iff (l := y :: r)
    constructor
    · intro h i p q hp hq
      unfold gapd at h
      rw [Bool.and_eq_true, decide_eq_true_eq] at h
      cases i with
      | zero => simp at hp hq; subst hp hq; exact h.1
      | succ i => exact ih.mp h.2 i p q (by simpa using hp) (by simpa using hq)
    · intro h
      unfold gapd
      rw [Bool.and_eq_true, decide_eq_true_eq]
      exact ⟨h 0 x y rfl rfl, ih.mpr fun i p q hp hq => h (i + 1) p q (by simpa using hp) (by simpa using hq)⟩
/-- what the first i pairs have, if the list is in one form so far -/
def oneTo (z : Bool) (l : List Pr) (i : Nat) : Prop := ∀ j, j < i → ∀ p, l[j]? = some p → emp z p = false ∧ ∀ k q, j = k + 1 → l[k]? = some q → q.2 < p.1
theorem oneTo_all {z : Bool} {l : List Pr} (h : oneTo z l l.length) : oneF z l = true := by
  unfold oneF
  rw [Bool.and_eq_true, List.all_eq_true]
  constructor
  · intro p hp
    obtain ⟨j, hj⟩ := List.mem_iff_getElem?.mp hp
    have hlt : j < l.length := by
      obtain ⟨h1, _⟩ := List.getElem?_eq_some_iff.mp hj
      exact h1
    rw [(h j hlt p hj).1]; rfl
  · refine gapd_iff.mpr fun i p q hp hq => ?_
    have hlt : i + 1 < l.length := by
      obtain ⟨h1, _⟩ := List.getElem?_eq_some_iff.mp hq
      exact h1
    exact (h (i + 1) hlt q hq).2 i p rfl hp
theorem oneF_empty {z : Bool} {l : List Pr} {i : Nat} {p : Pr} (hp : l[i]? = some p) (e : emp z p = true) : oneF z l = false := by
  rw [← Bool.not_eq_true]
  intro h
  unfold oneF at h
  rw [Bool.and_eq_true, List.all_eq_true] at h
  have := h.1 p (List.mem_of_getElem? hp)
  rw [e] at this
  cases this
theorem oneF_gap {z : Bool} {l : List Pr} {i : Nat} {p q : Pr} (hp : l[i]? = some p) (hq : l[i + 1]? = some q) (e : ¬ p.2 < q.1) : oneF z l = false := by
  rw [← Bool.not_eq_true]
  intro h
  unfold oneF at h
  rw [Bool.and_eq_true] at h
  exact e (gapd_iff.mp h.2 i p q hp hq)
theorem oneTo_more {z : Bool} {l : List Pr} {i : Nat} {p : Pr} (h : oneTo z l i) (hp : l[i]? = some p) (e : emp z p = false) (g : ∀ k q, i = k + 1 → l[k]? = some q → q.2 < p.1) : oneTo z l (i + 1) := by
  intro j hj x hx
  by_cases c : j < i
  · exact h j c x hx
  · obtain rfl : j = i := by omega
    obtain rfl : p = x := Option.some.inj (hp.symm.trans hx)
    exact ⟨e, g⟩
theorem emp_half {p : Pr} (h : p.1 ≤ p.2) : emp false p = decide (p.1 = p.2) := by
  show decide (p.2 ≤ p.1) = decide (p.1 = p.2)
  rw [decide_eq_decide]; omega
theorem emp_shut {p : Pr} (h : p.1 ≤ p.2) : emp true p = false := by
  show decide (p.2 < p.1) = false
  rw [decide_eq_false_iff_not]; omega
end Spk
namespace Spk
open PySem PySem.Spec PyProof.Rows L2
theorem mulB {x f F : Int} (h1 : -1 ≤ x) (h2 : x ≤ 6) (f0 : 0 ≤ f) (fF : f ≤ F) : -F ≤ x * f ∧ x * f ≤ 6 * F := by
  have : x = -1 ∨ x = 0 ∨ x = 1 ∨ x = 2 ∨ x = 3 ∨ x = 4 ∨ x = 5 ∨ x = 6 := by omega
  rcases this with h | h | h | h | h | h | h | h <;> subst h <;> omega
theorem rowStep {f at' X Y : Int} {i : Nat} (f1 : 1 ≤ f) (f2 : f ≤ 200000000000000000001) (hi : i < 21) (x1 : -1 ≤ X) (x2 : X ≤ 3) (y1 : 0 ≤ Y) (y2 : Y ≤ 3)
    (a1 : -(200000000000000000001 * (20 + 6 * (i : Int))) ≤ at') (a2 : at' ≤ 200000000000000000001 * (20 + 6 * (i : Int))) :
    (-1000000000000000000000000000000 ≤ at' + X * f ∧ at' + X * f ≤ at' + (X + Y) * f ∧ at' + (X + Y) * f ≤ 1000000000000000000000000000000) ∧
      (-(200000000000000000001 * (20 + 6 * (((i + 1 : Nat) : Nat) : Int))) ≤ at' + (X + Y) * f ∧ at' + (X + Y) * f ≤ 200000000000000000001 * (20 + 6 * (((i + 1 : Nat) : Nat) : Int))) := by
  obtain ⟨p1, p2⟩ := mulB (x := X) (f := f) (F := 200000000000000000001) (by omega) (by omega) (by omega) f2
  obtain ⟨q1, q2⟩ := mulB (x := X + Y) (f := f) (F := 200000000000000000001) (by omega) (by omega) (by omega) f2
  have e : (X + Y) * f = X * f + Y * f := Int.add_mul X Y f
  have y0 : 0 ≤ Y * f := Int.mul_nonneg y1 (by omega)
  generalize (X + Y) * f = w at *
  generalize X * f = u at *
  generalize Y * f = v at *
  omega
theorem strP_of {b e : Int} (h1 : -1000000000000000000000000000000 ≤ b) (h2 : b ≤ e) (h3 : e ≤ 1000000000000000000000000000000) : strP (b, e) = true := by
  unfold strP edgeI
  simp only [Bool.and_eq_true, Bool.or_eq_true, decide_eq_true_eq]
  omega
theorem strP_first {p : Pr} (h : strP p = true) : strP (-10000000000000000000000000000000, p.2) = true := by
  obtain ⟨a, b⟩ := p
  unfold strP edgeI at h ⊢
  simp only [Bool.and_eq_true, Bool.or_eq_true, decide_eq_true_eq] at h ⊢
  simp only [Int.reduceNeg, Int.reduceLE, Int.reduceLT, Int.reduceEq, true_and, and_true, true_or, or_true, false_or, or_false, false_and, and_false]
  omega
theorem strP_last {p : Pr} (h : strP p = true) : strP (p.1, 10000000000000000000000000000000) = true := by
  obtain ⟨a, b⟩ := p
  unfold strP edgeI at h ⊢
  simp only [Bool.and_eq_true, Bool.or_eq_true, decide_eq_true_eq] at h ⊢
  simp only [Int.reduceNeg, Int.reduceLE, Int.reduceLT, Int.reduceEq, true_and, and_true, true_or, or_true, false_or, or_false, false_and, and_false]
  omega
theorem set_good {l : List Pr} {i : Nat} {p : Pr} (h : ∀ x ∈ l, strP x = true) (hp : strP p = true) : ∀ x ∈ l.set i p, strP x = true := fun x hx => by
  rcases List.mem_or_eq_of_mem_set hx with h1 | h1
  · exact h x h1
  · exact h1 ▸ hp
theorem shapedNil : SeqAt.shaped (.list []) = true := shapedPs []
theorem eqvNil (ps : List Pr) : PyData.eqv (.list (ps.map prD)) (.list []) = decide (ps = []) := eqvPs ps []
end Spk
namespace Spk
open PySem PySem.Spec PyProof.Rows L2
theorem ixN_nat {n j : Nat} {i : Int} (e : i = (j : Int)) (h : j < n) : ixN n i = some j := by
  subst e
  unfold ixN
  rw [if_pos (Int.natCast_nonneg j), if_pos (Int.ofNat_lt.mpr h)]
  simp
theorem ixN_last {n : Nat} (h : 0 < n) : ixN n (-1) = some (n - 1) := by
  unfold ixN
  rw [if_neg (by decide), if_pos (by omega)]
  congr 1
  omega
theorem at_last {ts : List Addr} {t : Addr} (h : ts[ts.length - 1]? = some t) : atI (ts.map V.ref) (-1) = some (.ref t) := by
  have hl : ts.length - 1 < ts.length := (List.getElem?_eq_some_iff.mp h).1
  unfold atI
  rw [ixN_last (by rw [List.length_map]; omega)]
  show (ts.map V.ref)[(ts.map V.ref).length - 1]? = some (.ref t)
  rw [List.length_map, List.getElem?_map, h]; rfl
theorem at_ref {ts : List Addr} {t : Addr} {j : Nat} {i : Int} (e : i = (j : Int)) (h : ts[j]? = some t) : atI (ts.map V.ref) i = some (.ref t) :=
  at_of e (by rw [List.getElem?_map, h]; rfl)
theorem refs_set {ts : List Addr} {j : Nat} {t : Addr} : (ts.map V.ref).set j (.ref t) = (ts.set j t).map V.ref := by
  rw [List.map_set]
end Spk
namespace Spk
open PySem PySem.Spec PyProof.Rows L2
theorem reprB (b : Bool) : (PyData.bool b).showable = true ∧ (PyData.bool b).hasDict = false ∧ (PyData.bool b).depth ≤ 64 ∧ (PyData.bool b).shown.length ≤ sizeLine := by
  cases b <;> decide +kernel
theorem reprBB (b : Bool) : (PyData.list [.bool b, .bool b]).showable = true ∧ (PyData.list [.bool b, .bool b]).hasDict = false ∧ (PyData.list [.bool b, .bool b]).depth ≤ 64 ∧ (PyData.list [.bool b, .bool b]).shown.length ≤ sizeLine := by
  cases b <;> decide +kernel
theorem mode_of {j : Nat} {x : V} (h : ([.str "half", .str "shut"] : List V)[j]? = some x) : ∃ z, x = endsV z := by
  match j, h with
  | 0, h => exact ⟨false, (Option.some.inj h).symm⟩
  | 1, h => exact ⟨true, (Option.some.inj h).symm⟩
theorem pd_nil {H : Hp} {us : List Addr} (h : Pd H us []) : us = [] := by
  cases us with
  | nil => rfl
  | cons _ _ => exact h.elim
/-- behind a bag and what is drawn with it all that was tracked ahead is as it was -/
theorem bag_same {p : Addr} {H H1 H2 : Hp} (np : H p = none) (a : But p H H1) (b : Kp p H1 H2) : Same H H2 := fun c o h =>
  b c o (ne_of_none h np) ((a c (ne_of_none h np)).trans h)
theorem union_eqv {z : Bool} {ps : List Pr} (h : ∀ p ∈ ps, strP p = true) : PyData.eqv (.list ((unionM z ps).map prD)) (.list (ps.map prD)) = oneF z ps := by
  rw [eqvPs, Bool.eq_iff_iff, decide_eq_true_eq]
  exact union_fix fun p hp => strP_le (h p hp)
end Spk
namespace Spk
open PySem PySem.Spec PyProof.Rows L2
theorem cut_to {us : List Addr} {i : Int} {n : Nat} (e : i = (n : Int)) : cutV (us.map V.ref) none (some i) = (us.take n).map V.ref := by
  subst e
  unfold cutV
  rw [HT.sIx_none, HT.sIx_nat, List.drop_zero, Nat.sub_zero, List.map_take, List.length_map]
  by_cases h : n ≤ us.length
  · rw [Nat.min_eq_left h]
  · rw [Nat.min_eq_right (by omega), List.take_of_length_le (by rw [List.length_map]; omega), List.take_of_length_le (by rw [List.length_map]; omega)]
theorem cut_from {us : List Addr} {i : Int} {n : Nat} (e : i = (n : Int)) : cutV (us.map V.ref) (some i) none = (us.drop n).map V.ref := by
  subst e
  unfold cutV
  rw [HT.sIx_none, HT.sIx_nat, List.map_drop, List.length_map]
  by_cases h : n ≤ us.length
  · rw [Nat.min_eq_left h]
    exact List.take_of_length_le (by rw [List.length_drop, List.length_map]; omega)
  · rw [Nat.min_eq_right (by omega), List.drop_of_length_le (by rw [List.length_map]; omega), List.drop_of_length_le (by rw [List.length_map]; omega), List.take_nil]
theorem Pd.take {H : Hp} : ∀ {ts : List Addr} {ps : List Pr} (n : Nat), Pd H ts ps → Pd H (ts.take n) (ps.take n)
  | [], [], _, _ => by simp [Pd]
  | t :: ts, p :: ps, 0, _ => by simp [Pd]
  | t :: ts, p :: ps, n + 1, h => ⟨h.1, Pd.take n h.2⟩
  | [], _ :: _, _, h => h.elim
  | _ :: _, [], _, h => h.elim
theorem Pd.drop {H : Hp} : ∀ {ts : List Addr} {ps : List Pr} (n : Nat), Pd H ts ps → Pd H (ts.drop n) (ps.drop n)
  | [], [], _, _ => by simp [Pd]
  | t :: ts, p :: ps, 0, h => h
  | t :: ts, p :: ps, n + 1, h => Pd.drop n h.2
  | [], _ :: _, _, h => h.elim
  | _ :: _, [], _, h => h.elim
theorem bag_not_refs {H : Hp} {p s : Addr} {c : Int} {ts : List Addr} (bg : BagAt H p c) (h : H s = some (.lst (ts.map V.ref))) : s ≠ p := by
  rintro rfl
  obtain ⟨b0, b1, b2, b3, e, _⟩ := bg
  rw [e] at h
  have h := HO.lst.inj (Option.some.inj h)
  cases ts with
  | nil => cases h
  | cons t ts => exact V.noConfusion (List.cons.inj h).1
theorem bag_not_tup {H : Hp} {p t : Addr} {c : Int} {xs : List V} (bg : BagAt H p c) (h : H t = some (.tup xs)) : t ≠ p := by
  rintro rfl
  obtain ⟨b0, b1, b2, b3, e, _⟩ := bg
  rw [e] at h; cases h
theorem bag_kp {H H' : Hp} {p q : Addr} {c : Int} (bg : BagAt H p c) (k : Kp q H H') (n : p ≠ q) : BagAt H' p c := by
  obtain ⟨b0, b1, b2, b3, e, r⟩ := bg
  exact ⟨b0, b1, b2, b3, k _ _ n e, r⟩
end Spk
namespace Spk
open PySem PySem.Spec PyProof.Rows L2
theorem strP_cutR {b : Pr} {c : Int} (h : strP b = true) (h1 : b.1 ≤ c) (h2 : c ≤ b.2) (h3 : -1000000000000000000000000000000 ≤ c) (h4 : c ≤ 1000000000000000000000000000000) : strP (c, b.2) = true := by
  unfold strP edgeI at *
  simp only [Bool.and_eq_true, Bool.or_eq_true, decide_eq_true_eq] at *
  omega
theorem strP_cutL {b : Pr} {c : Int} (h : strP b = true) (h1 : b.1 ≤ c) (h2 : c ≤ b.2) (h3 : -1000000000000000000000000000000 ≤ c) (h4 : c ≤ 1000000000000000000000000000000) : strP (b.1, c) = true := by
  unfold strP edgeI at *
  simp only [Bool.and_eq_true, Bool.or_eq_true, decide_eq_true_eq] at *
  omega
end Spk
namespace Spk
open PySem PySem.Spec PyProof.Rows L2
theorem strP_ext {c p : Pr} (h : strP c = true) (k : strP p = true) (e : c.2 < p.2) : strP (c.1, p.2) = true := by
  unfold strP edgeI at *
  simp only [Bool.and_eq_true, Bool.or_eq_true, decide_eq_true_eq] at *
  omega
end Spk

namespace Spk
open PySem PySem.Spec PyProof.Rows L2
/-! ### the draws of the later laws -/
def BagN (H : Hp) (p : Addr) : Prop := ∃ b0 b1 : Int, H p = some (.lst [.int b0, .int b1]) ∧ 0 ≤ b0 ∧ 0 ≤ b1 ∧ b1 < 2147483629
theorem BagN.same {H H' : Hp} {p : Addr} (h : BagN H p) (e : Same H H') : BagN H' p := by
  obtain ⟨b0, b1, h0, h1⟩ := h
  exact ⟨b0, b1, e _ _ h0, h1⟩
theorem BagN.kp {H H' : Hp} {p q : Addr} (h : BagN H p) (k : Kp q H H') (n : p ≠ q) : BagN H' p := by
  obtain ⟨b0, b1, h0, h1⟩ := h
  exact ⟨b0, b1, k _ _ n h0, h1⟩
theorem bagN_ne {H : Hp} {p q : Addr} {o : HO} (h : BagN H p) (e : H q = some o) (n : ∀ b0 b1 : Int, o ≠ .lst [.int b0, .int b1]) : q ≠ p := by
  rintro rfl
  obtain ⟨b0, b1, h0, _⟩ := h
  rw [h0] at e
  exact n b0 b1 (Option.some.inj e).symm
theorem bagN_tup {H : Hp} {p t : Addr} {xs : List V} (h : BagN H p) (e : H t = some (.tup xs)) : t ≠ p := bagN_ne h e fun _ _ z => nomatch z
theorem bagN_refs {H : Hp} {p s : Addr} {ts : List Addr} (bg : BagN H p) (h : H s = some (.lst (ts.map V.ref))) : s ≠ p := bagN_ne bg h fun b0 b1 z => by
  have z := HO.lst.inj z
  cases ts with
  | nil => cases z
  | cons t ts => exact V.noConfusion (List.cons.inj z).1
theorem bagN_none {H : Hp} {p q : Addr} (h : BagN H p) (e : H q = none) : q ≠ p := by
  rintro rfl
  obtain ⟨b0, b1, h0, _⟩ := h
  rw [h0] at e; cases e
theorem BagN.ne_tup {H : Hp} {p : Addr} (h : BagN H p) : ∀ xs, H p ≠ some (.tup xs) := fun xs e => by
  obtain ⟨b0, b1, h0, _⟩ := h
  rw [h0] at e; cases e
/-! ### windows, terms -/
def winP (w : Pr) : Bool := edgeI w.1 && edgeI w.2 && decide (w.1 < w.2)
theorem winP_of {a b : Int} (ha : (-1000000000000000000000000000000 ≤ a ∧ a ≤ 1000000000000000000000000000000) ∨ a = -10000000000000000000000000000000)
    (hb : (-1000000000000000000000000000000 ≤ b ∧ b ≤ 1000000000000000000000000000000) ∨ b = 10000000000000000000000000000000) (h : a < b) : winP (a, b) = true := by
  unfold winP edgeI
  simp only [Bool.and_eq_true, Bool.or_eq_true, decide_eq_true_eq]
  omega
theorem winP_lt {w : Pr} (h : winP w = true) : w.1 < w.2 := by
  unfold winP at h
  simp only [Bool.and_eq_true, decide_eq_true_eq] at h
  exact h.2
theorem winP_pair {w : Pr} (h : winP w = true) : isPair (prD w) = true := by
  unfold winP at h
  rw [Bool.and_eq_true] at h
  exact h.1
theorem strP_first' {p : Pr} (h : strP p = true) : -10000000000000000000000000000000 < p.2 := by
  unfold strP at h
  simp only [Bool.and_eq_true, decide_eq_true_eq] at h
  exact h.2.2.2
def termV (t : Nat) : V := if t = 0 then .str "busy" else if t = 1 then .str "covered" else .str "clash"
theorem term_scal (t : Nat) (x : Str) : scal (termV t) (.str x) = true := by
  unfold termV
  split
  · rfl
  · split <;> rfl
theorem term_0 (t : Nat) : decide (termV t = .str "busy") = decide (t = 0) := by
  unfold termV
  split
  · rename_i h; subst h; decide +kernel
  · rename_i h
    rw [decide_eq_false h]
    split <;> decide +kernel
theorem term_1 (t : Nat) : decide (termV t = .str "covered") = decide (t = 1) := by
  unfold termV
  split
  · rename_i h; subst h; decide +kernel
  · split
    · rename_i h; subst h; decide +kernel
    · rename_i h
      rw [decide_eq_false h]
      decide +kernel
theorem mem_term {j : Nat} {x : V} (h : ([.str "busy", .str "covered", .str "clash"] : List V)[j]? = some x) : x = termV j ∧ j < 3 := by
  match j, h with
  | 0, h => exact ⟨(Option.some.inj h).symm, by decide⟩
  | 1, h => exact ⟨(Option.some.inj h).symm, by decide⟩
  | 2, h => exact ⟨(Option.some.inj h).symm, by decide⟩
theorem srt_len {ps : List Pr} : (srt ps).length = ps.length := (srt_perm ps).length_eq
theorem mxE (m n : Int) : (if n > m then n else m) = mx m n := rfl
theorem mnE (m n : Int) : (if n < m then n else m) = mn m n := rfl
/-! ### an Answer -/
/-- the tuple of the module that holds the words -/
structure WordsT (K : PySem.W.Frag) (mg : Str → Option Value) (x : Str) (xs : List V) : Prop where
  ex : ∃ A : Addr, mg x = some (.ref A) ∧ ∀ H, SqT K H A xs
theorem pe_words' {X : Cx} {x : Str} {xs : List V} {pos : Pos} (h : WordsT X.K X.mg x xs) (hg : Gl X x) (hd : (x == ("__debug__" : Str)) = false := by decide) : PE X (.Name x pos) (fun _ H Q => ∀ A, SqT X.K H A xs → Q (.ref A) H) := by
  obtain ⟨A, hm, hs⟩ := h.ex
  have q := pe_glob (v := .ref A) (pos := pos) hg hm rfl hd
  exact ⟨fun pins s σ H R I z => q.run pins s σ H R I (z A (hs H))⟩
/-- a def with keyword-only defaults alone -/
theorem okDK {P : Program} {w : World} {K : PySem.W.Frag} {mg : Str → Option Value} {bh : Heap} {x qu : Str} {st : Stmt} {kws : List (Str × V)} {f : Addr} {fd : FuncData} {N ps : List Str} {k : Nat} {sp : Sp}
    (F : FunD K x qu (defArgs st) (defBody st) (defScope st) [] kws f fd) (S : FnScope N ps (defScope st)) (ln : ∀ vs H Q E, sp vs H Q E → vs.length = ps.length)
    (hb : ∀ (cv : Value) (B : Around) (ou : List Env) (t : Shared) (J : Hp) (ws : List V) (R : VK) (U : XK), Room k (B.deeper (envOfC qu (defScope st) t.heap.objs.size f cv)) → sp ws J R U →
      ∃ tr, PSs (cxOf CX0 P w K mg bh N qu (defScope st) f cv B ou t J U).nox (defBody st) tr ∧ tr { nx := fun _ J' => R .non J', rt := R } (L2.start N ws) J) :
    FnOk P w K mg bh CX0 (k + 1) f fd ps sp := F.ok S ln fun cv B ou t J ws R U rm h => by
  obtain ⟨tr, q, z⟩ := hb cv B ou t J ws R U rm h
  exact ⟨tr, q.nox, z⟩
/-- a method, a property, a class ready to be used -/
structure RdyMt (P : Program) (w : World) (K : PySem.W.Frag) (mg : Str → Option Value) (bh : Heap) (C : Addr) (m : Str) (k : Nat) (ps : List Str) (dvs : List V) (sp : Sp) (f : Addr) (fd : FuncData) : Prop where
  ok : FnOk P w K mg bh CX0 k f fd ps sp
  mt : Meth K C m f
  bd : Binds K fd ps []
  bd1 : ∃ ds, Vals dvs ds ∧ Binds K fd ps ds
structure RdyPr (P : Program) (w : World) (K : PySem.W.Frag) (mg : Str → Option Value) (bh : Heap) (C : Addr) (m : Str) (k : Nat) (sp : Sp) (p f : Addr) (fd : FuncData) : Prop where
  ok : FnOk P w K mg bh CX0 k f fd ["self"] sp
  pr : PropOf K C m p f
  bd : Binds K fd ["self"] []
structure RdyMk (P : Program) (w : World) (K : PySem.W.Frag) (mg : Str → Option Value) (bh : Heap) (x : Str) (C : Addr) (k : Nat) (ps : List Str) (dvs : List V) (sp : Sp) (f : Addr) (fd : FuncData) : Prop where
  ok : FnOk P w K mg bh CX0 k f fd ps sp
  mkr : Mk K C f
  gl : mg x = some (.ref C)
  bd1 : ∃ ds, Vals dvs ds ∧ Binds K fd ps ds
  kb : ∃ g, KBn K fd ps 2 ["ends"] g (fun vs zs => vs ++ zs)
structure AnsC (K : PySem.W.Frag) (C : Addr) : Prop where
  cl : Cls K C
  nW : NoAttr K C "what"
  nE : NoAttr K C "ends"
def ansFs (t : Nat) (z : Bool) : List (Str × V) := [(("what" : Str), termV t), (("ends" : Str), endsV z)]
def IsAns (H : Hp) (a C : Addr) (t : Nat) (z : Bool) : Prop := ∃ dx : Addr, H a = some (.ins C dx (ansFs t z))
theorem IsAns.same {H H' : Hp} {a C : Addr} {t : Nat} {z : Bool} (h : IsAns H a C t z) (s : Same H H') : IsAns H' a C t z := by
  obtain ⟨dx, h1⟩ := h
  exact ⟨dx, s _ _ h1⟩
theorem ans_what (t : Nat) (z : Bool) : List.lookup ("what" : Str) (ansFs t z) = some (termV t) := by simp [ansFs, List.lookup]
theorem ans_ends (t : Nat) (z : Bool) : List.lookup ("ends" : Str) (ansFs t z) = some (endsV z) := by
  have : (("ends" : Str) == ("what" : Str)) = false := by decide +kernel
  simp [ansFs, List.lookup, this]
theorem ans_no {f : Str} (t : Nat) (z : Bool) (h1 : (f == ("what" : Str)) = false) (h2 : (f == ("ends" : Str)) = false) : List.lookup f (ansFs t z) = none := by simp [ansFs, List.lookup, h1, h2]
theorem ans_put (t : Nat) (z : Bool) : putF "ends" (endsV z) (putF "what" (termV t) []) = ansFs t z := by
  have : ¬ (("what" : Str) = ("ends" : Str)) := by decide +kernel
  simp [putF, ansFs, this]
theorem Pd.rev {H : Hp} : ∀ {ts : List Addr} {ps : List Pr}, Pd H ts ps → Pd H ts.reverse ps.reverse
  | [], [], _ => trivial
  | t :: ts, r :: ps, h => by
    rw [List.reverse_cons, List.reverse_cons]
    exact (Pd.rev h.2).app ⟨h.1, trivial⟩
  | [], _ :: _, h => h.elim
  | _ :: _, [], h => h.elim
end Spk
namespace Spk
open PySem PySem.Spec PyProof.Rows L2
theorem cut_int {ns : List Int} {lo hi : Option Int} {i : Nat} {x : V} (h : (cutV (ns.map V.int) lo hi)[i]? = some x) : ∃ n, x = .int n := by
  have := List.mem_of_getElem? h
  unfold cutV at this
  have := List.mem_of_mem_drop (List.mem_of_mem_take this)
  obtain ⟨n, _, e⟩ := List.mem_map.mp this
  exact ⟨n, e.symm⟩
theorem cut_len {xs : List V} {lo hi : Option Int} : (cutV xs lo hi).length ≤ xs.length := cutV_length xs lo hi
end Spk
namespace Spk
open PySem PySem.Spec PyProof.Rows L2
/-- o.f, the written part named (within a comprehension) -/
theorem pe_fldK {X : Cx} {K : PySem.W.Frag} {e : Expr} {ta : TE} {f : Str} {pos : Pos} (ho : PE X e ta) (hb : attributeBase e f X.env (eval e X.env) = eval e X.env := by rfl) (h : X.K = K := by rfl) : PE X (.Attribute e f pos) (tFld K ta f) := h ▸ pe_fld ho hb
end Spk

namespace Spk
open PySem PySem.Spec PyProof.Rows L2
/-- but for what stands at p and q all that was tracked is as it was -/
def Ks (p q : Addr) (H H' : Hp) : Prop := ∀ b o, b ≠ p → b ≠ q → H b = some o → H' b = some o
theorem Ks.refl {p q : Addr} {H : Hp} : Ks p q H H := fun _ _ _ _ h => h
theorem Ks.trans {p q : Addr} {H H1 H2 : Hp} (a : Ks p q H H1) (b : Ks p q H1 H2) : Ks p q H H2 := fun c o n m h => b c o n m (a c o n m h)
theorem Ks.same {p q : Addr} {H H' : Hp} (s : Same H H') : Ks p q H H' := fun c o _ _ h => s c o h
theorem Ks.kp {p q : Addr} {H H' : Hp} (s : Kp p H H') : Ks p q H H' := fun c o n _ h => s c o n h
theorem Ks.kq {p q : Addr} {H H' : Hp} (s : Kp q H H') : Ks p q H H' := fun c o _ n h => s c o n h
end Spk
namespace Spk
open PySem PySem.Spec PyProof.Rows L2
theorem pcS_take {l : List Pr} {p o : Pr} {k : Nat} (h : l[k]? = some o) : (l.take (k + 1)).foldl pcS ([], p) = pcS ((l.take k).foldl pcS ([], p)) o := by
  rw [take_more h, List.foldl_append]; rfl
theorem pcS_len (l : List Pr) (p : Pr) (s : List Pr) : (l.foldl pcS (s, p)).1.length ≤ s.length + l.length := by
  rw [pcS_go]
  have := (pcGo_sub l p).length_le
  simp only [List.length_append]
  omega
theorem pcStep_pos {z : Bool} {f : List Pr} {p : Pr} (h : (z || decide (p.1 < p.2)) = true) : pcStep z f p = srt ((f.foldl pcS ([], p)).1 ++ [(f.foldl pcS ([], p)).2]) := by
  unfold pcStep
  rw [if_pos h, pcS_go]
  rfl
theorem pcStep_neg {z : Bool} {f : List Pr} {p : Pr} (h : ¬ (z || decide (p.1 < p.2)) = true) : pcStep z f p = f := by
  unfold pcStep
  rw [if_neg h]
theorem step_take {z : Bool} {ps : List Pr} {p : Pr} {i : Nat} (h : ps[i]? = some p) : (ps.take (i + 1)).foldl (pcStep z) [] = pcStep z ((ps.take i).foldl (pcStep z) []) p := by
  rw [take_more h, List.foldl_append]; rfl
end Spk
namespace Spk
/-- or, the way of yes told once -/
theorem or_mid {c1 c2 : Bool} {A C : Prop} (h : (c1 || c2) = true → A) (k : c1 = false → (c2 = true → A) → C) : if c1 = true then A else C := by
  cases c1 with
  | true => rw [if_pos rfl]; exact h rfl
  | false => rw [if_neg Bool.false_ne_true]; exact k rfl fun e => h (by rw [e]; rfl)
end Spk
namespace Spk
open PySem PySem.Spec PyProof.Rows L2
/-- one turn of a comprehension of truths over pairs -/
theorem bl_step {f : Pr → Bool} {L : List Pr} {i : Nat} {p : Pr} {H1 H4 : Hp} {D : Addr} (hp : L[i]? = some p) (nD : H1 D = none) (hl : L.length ≤ 2000) (ss : Same H1 H4) (hD : H4 D = some (.lst (((L.take i).map f).map V.bl))) {b : Bool} (e : f p = b) :
    ∃ acc, H4 D = some (.lst acc) ∧ acc.length < sizeLine ∧ Same H1 (upd H4 D (.lst (acc ++ [.bl b]))) ∧ upd H4 D (.lst (acc ++ [.bl b])) D = some (.lst (((L.take (i + 1)).map f).map V.bl)) := by
  have hk : (L.take i).length ≤ L.length := List.length_take_le' ..
  refine ⟨_, hD, ?_, fun c o hb => ?_, ?_⟩
  · rw [List.length_map, List.length_map]
    have : (2000 : Nat) < sizeLine := by decide
    omega
  · rw [upd_ne (ne_of_none hb nD)]
    exact ss _ _ hb
  · rw [upd_same, take_more hp, List.map_append, List.map_append, ← e]
    rfl
theorem any_bl {f : Pr → Bool} {L : List Pr} : (L.map f).any id = L.any f := by
  rw [List.any_map]; rfl
end Spk
namespace Spk
open PySem PySem.Spec PyProof.Rows L2
theorem same_kp {p : Addr} {H H1 H2 : Hp} (np : H p = none) (a : Same H H1) (b : Kp p H1 H2) : Same H H2 := fun c o h => b c o (ne_of_none h np) (a c o h)
/-- what was made behind, at L, may be changed -/
theorem kp_ks {p L : Addr} {H H1 H2 : Hp} (k : Kp p H H1) (nL : H1 L = none) (neL : L ≠ p) (b : Ks p L H1 H2) : Kp p H H2 := fun c o n h =>
  b c o n (fun z => by subst z; rw [k _ _ n h] at nL; cases nL) (k c o n h)
theorem ks_new {p L : Addr} {H H1 : Hp} {o : HO} (nL : H L = none) (b : Ks p L (upd H L o) H1) (neL : L ≠ p) : Kp p H H1 := fun c u n h =>
  b c u n (ne_of_none h nL) (by rw [upd_ne (ne_of_none h nL)]; exact h)
theorem take_good {ps : List Pr} {n : Nat} (h : ∀ x ∈ ps, strP x = true) : ∀ x ∈ ps.take n, strP x = true := fun x hx => h x (List.mem_of_mem_take hx)
theorem drop_good {ps : List Pr} {n : Nat} (h : ∀ x ∈ ps, strP x = true) : ∀ x ∈ ps.drop n, strP x = true := fun x hx => h x (List.mem_of_mem_drop hx)
theorem eqv_self (ps : List Pr) : (!PyData.eqv (.list (ps.map prD)) (.list (ps.map prD))) = false := by rw [eqvPs, decide_eq_true rfl]; rfl
end Spk
namespace Spk
open PySem PySem.Spec PyProof.Rows L2
theorem iteFe {c : Bool} {A B : Prop} (h : c = false) (b : B) : if c = true then A else B := by
  rw [h, if_neg Bool.false_ne_true]; exact b
theorem in_bools (d : Bool) : inV (.bl d) [.bl true, .bl false] = true := by cases d <;> decide +kernel
theorem same_make {o dx C : Addr} {H H' : Hp} (no : H o = none) (nd : H dx = none) (k : Kp o (upd (upd H dx (.own o)) o (.ins C dx [])) H') : Same H H' := fun b u e =>
  k b u (ne_of_none e no) (by rw [upd_ne (ne_of_none e no), upd_ne (ne_of_none e nd)]; exact e)
theorem no_wished (t : Nat) (z : Bool) : List.lookup ("wished" : Str) (ansFs t z) = none := ans_no t z (by decide +kernel) (by decide +kernel)
end Spk

namespace Spk
open PySem PySem.Spec PyProof.Rows L2
/-- a shorter reading of an expression -/
theorem pe_imp {X : Cx} {e : Expr} {t t' : TE} (h : PE X e t) (i : ∀ σ H Q, t' σ H Q → t σ H Q) : PE X e t' := ⟨fun pins s σ H Q I z => h.run pins s σ H Q I (i σ H Q z)⟩
/-! ### what the wishes for numbers count -/
def hldB (z : Bool) (p : Pr) (i : Int) : Bool := decide (p.1 ≤ i) && (if z then decide (i ≤ p.2) else decide (i < p.2))
/-- t: 0 all, 1 full, 2 left, 3 within, 4 touched, 5 pieces -/
def cntB (t : Nat) (z : Bool) (w p : Pr) : Bool := if t = 1 then !emp z p else if t = 2 then hldB z p w.1 else if t = 3 then (decide (w.1 ≤ p.1) && decide (p.2 ≤ w.2)) else if t = 4 then meetB z p w else true
def numB (t : Nat) (z : Bool) (ps : List Pr) (w : Pr) : Int := if t = 5 then ((unionM z ps).length : Int) else ((ps.filter (cntB t z w)).length : Int)
def numS (t : Nat) : Str := if t = 0 then "all" else if t = 1 then "full" else if t = 2 then "left" else if t = 3 then "within" else if t = 4 then "touched" else "pieces"
def numV (t : Nat) : V := .str (numS t)
theorem six {P : Nat → Prop} {t : Nat} (h : t < 6) (h0 : P 0) (h1 : P 1) (h2 : P 2) (h3 : P 3) (h4 : P 4) (h5 : P 5) : P t := by
  have : t = 0 ∨ t = 1 ∨ t = 2 ∨ t = 3 ∨ t = 4 ∨ t = 5 := by omega
  rcases this with rfl | rfl | rfl | rfl | rfl | rfl <;> assumption
theorem num_full {t : Nat} (h : t < 6) : decide (numV t = .str "full") = decide (t = 1) := six (P := fun t => decide (numV t = .str "full") = decide (t = 1)) h (by decide +kernel) (by decide +kernel) (by decide +kernel) (by decide +kernel) (by decide +kernel) (by decide +kernel)
theorem num_left {t : Nat} (h : t < 6) : decide (numV t = .str "left") = decide (t = 2) := six (P := fun t => decide (numV t = .str "left") = decide (t = 2)) h (by decide +kernel) (by decide +kernel) (by decide +kernel) (by decide +kernel) (by decide +kernel) (by decide +kernel)
theorem num_within {t : Nat} (h : t < 6) : decide (numV t = .str "within") = decide (t = 3) := six (P := fun t => decide (numV t = .str "within") = decide (t = 3)) h (by decide +kernel) (by decide +kernel) (by decide +kernel) (by decide +kernel) (by decide +kernel) (by decide +kernel)
theorem num_touched {t : Nat} (h : t < 6) : decide (numV t = .str "touched") = decide (t = 4) := six (P := fun t => decide (numV t = .str "touched") = decide (t = 4)) h (by decide +kernel) (by decide +kernel) (by decide +kernel) (by decide +kernel) (by decide +kernel) (by decide +kernel)
theorem num_pieces {t : Nat} (h : t < 6) : decide (numV t = .str "pieces") = decide (t = 5) := six (P := fun t => decide (numV t = .str "pieces") = decide (t = 5)) h (by decide +kernel) (by decide +kernel) (by decide +kernel) (by decide +kernel) (by decide +kernel) (by decide +kernel)
theorem num_mem {t : Nat} (h : t < 6) : inV (numV t) [.str "all", .str "full", .str "left", .str "within", .str "touched", .str "pieces"] = true := six (P := fun t => inV (numV t) [.str "all", .str "full", .str "left", .str "within", .str "touched", .str "pieces"] = true) h (by decide +kernel) (by decide +kernel) (by decide +kernel) (by decide +kernel) (by decide +kernel) (by decide +kernel)
theorem num_uses {t : Nat} (h : t < 6) : inV (numV t) [.str "left", .str "within", .str "touched"] = (decide (2 ≤ t) && decide (t ≤ 4)) := six (P := fun t => inV (numV t) [.str "left", .str "within", .str "touched"] = (decide (2 ≤ t) && decide (t ≤ 4))) h (by decide +kernel) (by decide +kernel) (by decide +kernel) (by decide +kernel) (by decide +kernel) (by decide +kernel)
theorem num_free {t : Nat} (h : t < 6) : inV (numV t) [.str "all", .str "full", .str "pieces"] = (decide (t ≤ 1) || decide (t = 5)) := six (P := fun t => inV (numV t) [.str "all", .str "full", .str "pieces"] = (decide (t ≤ 1) || decide (t = 5))) h (by decide +kernel) (by decide +kernel) (by decide +kernel) (by decide +kernel) (by decide +kernel) (by decide +kernel)
theorem mem_num {j : Nat} {x : V} (h : ([.str "all", .str "full", .str "left", .str "within", .str "touched", .str "pieces"] : List V)[j]? = some x) : x = numV j ∧ j < 6 := by
  match j, h with
  | 0, h => exact ⟨(Option.some.inj h).symm, by decide⟩
  | 1, h => exact ⟨(Option.some.inj h).symm, by decide⟩
  | 2, h => exact ⟨(Option.some.inj h).symm, by decide⟩
  | 3, h => exact ⟨(Option.some.inj h).symm, by decide⟩
  | 4, h => exact ⟨(Option.some.inj h).symm, by decide⟩
  | 5, h => exact ⟨(Option.some.inj h).symm, by decide⟩
theorem num_rev {t : Nat} {z : Bool} {ps : List Pr} {w : Pr} : numB t z ps.reverse w = numB t z ps w := by
  unfold numB
  rw [union_rev, List.filter_reverse, List.length_reverse]
theorem num_nil {t : Nat} {z : Bool} {w : Pr} : numB t z [] w = 0 := by
  unfold numB
  split <;> rfl
theorem num_snoc {t : Nat} {z : Bool} {ps : List Pr} {x w : Pr} (h : t ≠ 5) : numB t z (ps ++ [x]) w - numB t z ps w = numB t z [x] w := by
  unfold numB
  rw [if_neg h, if_neg h, if_neg h, List.filter_append, List.length_append]
  omega
theorem num_nn {t : Nat} {z : Bool} {ps : List Pr} {w : Pr} : 0 ≤ numB t z ps w := by
  unfold numB
  split <;> omega
/-! ### a Number -/
def numFs (t : Nat) (z : Bool) : List (Str × V) := [(("what" : Str), numV t), (("ends" : Str), endsV z)]
def IsNum (H : Hp) (a C : Addr) (t : Nat) (z : Bool) : Prop := ∃ dx : Addr, H a = some (.ins C dx (numFs t z))
theorem IsNum.same {H H' : Hp} {a C : Addr} {t : Nat} {z : Bool} (h : IsNum H a C t z) (s : Same H H') : IsNum H' a C t z := by
  obtain ⟨dx, h1⟩ := h
  exact ⟨dx, s _ _ h1⟩
theorem numF_what (t : Nat) (z : Bool) : List.lookup ("what" : Str) (numFs t z) = some (numV t) := by simp [numFs, List.lookup]
theorem numF_ends (t : Nat) (z : Bool) : List.lookup ("ends" : Str) (numFs t z) = some (endsV z) := by
  have : (("ends" : Str) == ("what" : Str)) = false := by decide +kernel
  simp [numFs, List.lookup, this]
theorem numF_wished (t : Nat) (z : Bool) : List.lookup ("wished" : Str) (numFs t z) = none := by
  have h1 : (("wished" : Str) == ("what" : Str)) = false := by decide +kernel
  have h2 : (("wished" : Str) == ("ends" : Str)) = false := by decide +kernel
  simp [numFs, List.lookup, h1, h2]
theorem num_put (t : Nat) (z : Bool) : putF "ends" (endsV z) (putF "what" (numV t) []) = numFs t z := by
  have : ¬ (("what" : Str) = ("ends" : Str)) := by decide +kernel
  simp [putF, numFs, this]
/-! ### the law's expressions, read in short: slots a (the stretch), b (the window), c (the ends) -/
def tFullS (K : PySem.W.Frag) (a c : Nat) : TE := fun σ H Q => ∃ (t : Addr) (p : Pr) (z : Bool), σ[a]? = some (some (.ref t)) ∧ σ[c]? = some (some (endsV z)) ∧ SqT K H t [.int p.1, .int p.2] ∧ p.1 ≤ p.2 ∧ Q (.bl (!emp z p)) H
def tLeftS (K : PySem.W.Frag) (a b c : Nat) : TE := fun σ H Q => ∃ (t u : Addr) (p w : Pr) (z : Bool), σ[a]? = some (some (.ref t)) ∧ σ[b]? = some (some (.ref u)) ∧ σ[c]? = some (some (endsV z)) ∧ SqT K H t [.int p.1, .int p.2] ∧ SqT K H u [.int w.1, .int w.2] ∧ p.1 ≤ p.2 ∧ Q (.bl (hldB z p w.1)) H
def tWithS (K : PySem.W.Frag) (a b : Nat) : TE := fun σ H Q => ∃ (t u : Addr) (p w : Pr), σ[a]? = some (some (.ref t)) ∧ σ[b]? = some (some (.ref u)) ∧ SqT K H t [.int p.1, .int p.2] ∧ SqT K H u [.int w.1, .int w.2] ∧ Q (.bl (decide (w.1 ≤ p.1) && decide (p.2 ≤ w.2))) H
def rowsK (f : Bool) : List (Key × V) := [(Sum.inr ("all" : Str), .bl true), (Sum.inr ("full" : Str), .bl f)]
def rowsW (f l i m : Bool) : List (Key × V) := [(Sum.inr ("all" : Str), .bl true), (Sum.inr ("full" : Str), .bl f), (Sum.inr ("left" : Str), .bl l), (Sum.inr ("within" : Str), .bl i), (Sum.inr ("touched" : Str), .bl m)]
end Spk
namespace Spk
open PySem PySem.Spec PyProof.Rows L2
theorem emp_full_t {z : Bool} {p : Pr} (h : z = true) (le : p.1 ≤ p.2) : (!emp z p) = true := by
  subst h
  show (!decide (p.2 < p.1)) = true
  rw [decide_eq_false (by omega)]; rfl
theorem emp_full_f {z : Bool} {p : Pr} (h : ¬ z = true) : (!emp z p) = decide (p.1 < p.2) := by
  have : z = false := by cases z <;> simp_all
  subst this
  show (!decide (p.2 ≤ p.1)) = decide (p.1 < p.2)
  rw [Bool.eq_iff_iff]
  simp
theorem hld_in {z : Bool} {p : Pr} {i : Int} (h1 : p.1 ≤ i) (h2 : i < p.2) : hldB z p i = true := by
  unfold hldB
  cases z <;> simp <;> omega
theorem hld_out {z : Bool} {p : Pr} {i : Int} (h : ¬ p.1 ≤ i) (le : p.1 ≤ p.2) : (z && decide (V.int p.2 = V.int i)) = false ∧ hldB z p i = false := by
  have : ¬ p.2 = i := by omega
  unfold hldB
  rw [decide_eq_false h]
  exact ⟨by rw [decide_eq_false fun e => this (V.int.inj e)]; cases z <;> rfl, rfl⟩
theorem hld_end {z : Bool} {p : Pr} {i : Int} (h1 : p.1 ≤ i) (h2 : ¬ i < p.2) : hldB z p i = (z && decide (V.int p.2 = V.int i)) := by
  unfold hldB
  rw [Bool.eq_iff_iff]
  cases z <;> simp <;> omega
theorem merge_rows (f : Bool) : mergeK [] (rowsK f) = rowsK f := by cases f <;> decide +kernel
theorem put_rows (f l i m : Bool) : putK (putK (putK (rowsK f) (Sum.inr ("left" : Str)) (.bl l)) (Sum.inr ("within" : Str)) (.bl i)) (Sum.inr ("touched" : Str)) (.bl m) = rowsW f l i m := by
  cases f <;> cases l <;> cases i <;> cases m <;> decide +kernel
theorem val_rowsK {t : Nat} (h : t ≤ 1) (f : Bool) : valV (rowsK f) (Sum.inr (numS t)) = some (.bl (if t = 1 then f else true)) := by
  have : t = 0 ∨ t = 1 := by omega
  rcases this with rfl | rfl <;> cases f <;> decide +kernel
theorem val_rowsW {t : Nat} (h : t < 5) (f l i m : Bool) : valV (rowsW f l i m) (Sum.inr (numS t)) = some (.bl (if t = 1 then f else if t = 2 then l else if t = 3 then i else if t = 4 then m else true)) := by
  have : t = 0 ∨ t = 1 ∨ t = 2 ∨ t = 3 ∨ t = 4 := by omega
  rcases this with rfl | rfl | rfl | rfl | rfl <;> cases f <;> cases l <;> cases i <;> cases m <;> decide +kernel
end Spk

namespace Spk
open PySem PySem.Spec PyProof.Rows L2
/-! ### how often a moment is held, by the sorted changes -/
def turn1 (z : Bool) (p : Pr) : List Pr := if emp z p then [] else [(p.1, 1), (if z then p.2 + 1 else p.2, -1)]
def turnsM (z : Bool) (ps : List Pr) : List Pr := ps.flatMap (turn1 z)
/-- the sum of the steps up to a moment -/
def cM (ts : List Pr) (m : Int) : Int := ((ts.filter fun t => decide (t.1 ≤ m)).map (·.2)).sum
def sumK (ts : List Pr) : Int := (ts.map (·.2)).sum
theorem cM_app (ts us : List Pr) (m : Int) : cM (ts ++ us) m = cM ts m + cM us m := by
  unfold cM
  rw [List.filter_append, List.map_append, List.sum_append_int]
theorem cM_perm {ts us : List Pr} (h : ts.Perm us) (m : Int) : cM ts m = cM us m := by
  induction h with
  | nil => rfl
  | @cons x a b p ih =>
    have e1 : ∀ l, cM (x :: l) m = cM [x] m + cM l m := fun l => cM_app [x] l m
    rw [e1, e1 b, ih]
  | swap x y l =>
    have e1 : ∀ x y, cM (x :: y :: l) m = cM [x] m + (cM [y] m + cM l m) := fun x y => by
      rw [show x :: y :: l = [x] ++ ([y] ++ l) from rfl, cM_app, cM_app]
    rw [e1, e1 x y]; omega
  | trans p1 p2 h1 h2 => exact h1.trans h2
theorem cM_one (t : Pr) (m : Int) : cM [t] m = if t.1 ≤ m then t.2 else 0 := by
  unfold cM
  by_cases h : t.1 ≤ m
  · rw [if_pos h, List.filter_cons_of_pos (by simpa using h)]
    simp
  · rw [if_neg h, List.filter_cons_of_neg (by simpa using h)]
    simp
theorem cM_turn {z : Bool} {p : Pr} (h : p.1 ≤ p.2) (m : Int) : cM (turn1 z p) m = if hldB z p m then 1 else 0 := by
  unfold turn1 emp hldB
  cases z with
  | true =>
    rw [if_pos rfl, if_neg (by simp; omega)]
    rw [show ∀ a b : Pr, [a, b] = [a] ++ [b] from fun _ _ => rfl, cM_app, cM_one, cM_one]
    simp only [if_true, Bool.and_eq_true, decide_eq_true_eq]
    (repeat' split) <;> omega
  | false =>
    simp only [Bool.false_eq_true, if_false, decide_eq_true_eq, Bool.and_eq_true]
    by_cases c : p.2 ≤ p.1
    · rw [if_pos c, if_neg (by omega)]; rfl
    · rw [if_neg c, show ∀ a b : Pr, [a, b] = [a] ++ [b] from fun _ _ => rfl, cM_app, cM_one, cM_one]
      (repeat' split) <;> omega
theorem cM_turns {z : Bool} (m : Int) : ∀ {ps : List Pr}, (∀ p ∈ ps, p.1 ≤ p.2) → cM (turnsM z ps) m = ((ps.filter fun p => hldB z p m).length : Int)
  | [], _ => rfl
  | p :: r, h => by
    have ih := cM_turns (z := z) m (ps := r) fun q hq => h q (List.mem_cons_of_mem _ hq)
    rw [show turnsM z (p :: r) = turn1 z p ++ turnsM z r from rfl, cM_app, ih, cM_turn (h p List.mem_cons_self)]
    by_cases c : hldB z p m = true
    · rw [if_pos c, List.filter_cons_of_pos (by simpa using c), List.length_cons]; omega
    · rw [if_neg c, List.filter_cons_of_neg (by simpa using c)]; omega
theorem turns_len {z : Bool} : ∀ (ps : List Pr), (turnsM z ps).length ≤ 2 * ps.length
  | [] => Nat.le_refl _
  | p :: r => by
    have ih := turns_len (z := z) r
    rw [show turnsM z (p :: r) = turn1 z p ++ turnsM z r from rfl, List.length_append, List.length_cons]
    have : (turn1 z p).length ≤ 2 := by unfold turn1; split <;> simp
    omega
theorem turns_snoc {z : Bool} (ps : List Pr) (p : Pr) : turnsM z (ps ++ [p]) = turnsM z ps ++ turn1 z p := by
  unfold turnsM
  rw [List.flatMap_append]; simp
theorem cM_all {ts : List Pr} {m : Int} (h : ∀ t ∈ ts, t.1 ≤ m) : cM ts m = sumK ts := by
  unfold cM sumK
  rw [List.filter_eq_self.mpr fun t ht => by simpa using h t ht]
theorem cM_none {ts : List Pr} {m : Int} (h : ∀ t ∈ ts, m < t.1) : cM ts m = 0 := by
  unfold cM
  rw [List.filter_eq_nil_iff.mpr fun t ht => by have := h t ht; simp; omega]; rfl
/-- what the walk has passed is what the moment has passed -/
theorem cM_take {ts : List Pr} {m : Int} {k : Nat} (s : ts.Pairwise ple) (h1 : ∀ t ∈ ts.take k, t.1 ≤ m) (h2 : ∀ t, ts[k]? = some t → m < t.1) : sumK (ts.take k) = cM ts m := by
  have e := cM_app (ts.take k) (ts.drop k) m
  rw [List.take_append_drop] at e
  rw [e, cM_all h1, cM_none, Int.add_zero]
  intro t ht
  have hk : k < ts.length := by
    rcases Nat.lt_or_ge k ts.length with h | h
    · exact h
    · rw [List.drop_eq_nil_of_le h] at ht; cases ht
  have h0 := h2 _ (List.getElem?_eq_getElem hk)
  rw [List.drop_eq_getElem_cons hk] at ht
  rcases List.mem_cons.mp ht with rfl | ht
  · exact h0
  · have sp := (List.pairwise_iff_getElem.mp s)
    obtain ⟨i, hi, rfl⟩ := List.mem_iff_getElem.mp ht
    rw [List.getElem_drop]
    rw [List.length_drop] at hi
    have := sp k (k + 1 + i) hk (by omega) (by omega)
    unfold ple at this
    omega
theorem sumK_snoc (ts : List Pr) (t : Pr) : sumK (ts ++ [t]) = sumK ts + t.2 := by
  unfold sumK
  rw [List.map_append, List.sum_append_int]; simp
theorem srt_turns (z : Bool) {ps : List Pr} (h : ∀ p ∈ ps, p.1 ≤ p.2) (m : Int) : cM (srt (turnsM z ps)) m = ((ps.filter fun p => hldB z p m).length : Int) :=
  (cM_perm (srt_perm _) m).trans (cM_turns m h)
/-- how many stretches hold a moment -/
def hldN (z : Bool) (ps : List Pr) (m : Int) : Int := ((ps.filter fun p => hldB z p m).length : Int)
/-! ### which times are wished -/
/-- t: 0 some, 1 none, 2 all, 3 one, 4 two, 5 each -/
def wndB (t : Nat) (held many : Int) : Int := if t = 5 then held else if (if t = 0 then decide (0 < held) else if t = 1 then decide (held = 0) else if t = 2 then decide (held = many) else if t = 3 then decide (held = 1) else decide (1 < held)) = true then 1 else 0
def wndS (t : Nat) : Str := if t = 0 then "some" else if t = 1 then "none" else if t = 2 then "all" else if t = 3 then "one" else if t = 4 then "two" else if t = 5 then "each" else "inside"
def wndV (t : Nat) : V := .str (wndS t)
theorem wnd_is {t : Nat} (h : t < 6) (x : Str) (u : Nat) (e : decide (wndV 0 = .str x) = decide (0 = u) ∧ decide (wndV 1 = .str x) = decide (1 = u) ∧ decide (wndV 2 = .str x) = decide (2 = u) ∧ decide (wndV 3 = .str x) = decide (3 = u) ∧ decide (wndV 4 = .str x) = decide (4 = u) ∧ decide (wndV 5 = .str x) = decide (5 = u)) : decide (wndV t = .str x) = decide (t = u) :=
  six (P := fun t => decide (wndV t = .str x) = decide (t = u)) h e.1 e.2.1 e.2.2.1 e.2.2.2.1 e.2.2.2.2.1 e.2.2.2.2.2
theorem wnd_each {t : Nat} (h : t < 6) : decide (wndV t = .str "each") = decide (t = 5) := wnd_is h _ _ (by decide +kernel)
theorem wnd_some {t : Nat} (h : t < 6) : decide (wndV t = .str "some") = decide (t = 0) := wnd_is h _ _ (by decide +kernel)
theorem wnd_none {t : Nat} (h : t < 6) : decide (wndV t = .str "none") = decide (t = 1) := wnd_is h _ _ (by decide +kernel)
theorem wnd_all {t : Nat} (h : t < 6) : decide (wndV t = .str "all") = decide (t = 2) := wnd_is h _ _ (by decide +kernel)
theorem wnd_one {t : Nat} (h : t < 6) : decide (wndV t = .str "one") = decide (t = 3) := wnd_is h _ _ (by decide +kernel)
theorem wnd_inside {t : Nat} (h : t < 6) : decide (wndV t = .str "inside") = false := (wnd_is h _ 6 (by decide +kernel)).trans (decide_eq_false (by omega))
theorem mem_wnd {j : Nat} {x : V} (h : ([.str "some", .str "none", .str "all", .str "one", .str "two", .str "each"] : List V)[j]? = some x) : x = wndV j ∧ j < 6 := by
  match j, h with
  | 0, h => exact ⟨(Option.some.inj h).symm, by decide⟩
  | 1, h => exact ⟨(Option.some.inj h).symm, by decide⟩
  | 2, h => exact ⟨(Option.some.inj h).symm, by decide⟩
  | 3, h => exact ⟨(Option.some.inj h).symm, by decide⟩
  | 4, h => exact ⟨(Option.some.inj h).symm, by decide⟩
  | 5, h => exact ⟨(Option.some.inj h).symm, by decide⟩
  | (n + 6), h => exact absurd h (by simp)
theorem turn1_ne {z : Bool} {p : Pr} (h : emp z p = false) : turn1 z p = [(p.1, 1)] ++ [(if z then p.2 + 1 else p.2, -1)] := by
  unfold turn1; rw [if_neg (by rw [h]; decide)]; rfl
theorem turn1_em {z : Bool} {p : Pr} (h : emp z p = true) : turn1 z p = [] := by
  unfold turn1; rw [if_pos h]
/-! ### a walk over what stays, beside a list that grows -/
theorem sqK_app {K : PySem.W.Frag} {H H' : Hp} {L a : Addr} {xs us : List V} (s : Same H H') (hL : H' L = some (.lst us)) (h0 : xs = [] → us = []) : SqK K (upd H L (.lst [])) H' a xs := by
  by_cases c : a = L
  · subst c
    refine ⟨fun h => ?_, fun h => ?_⟩
    · rcases h with (h | ⟨o, h⟩) | h
      · rw [upd_same] at h
        have e : [] = xs := by injection h with h; injection h
        refine .inl (.inl ?_)
        rw [hL, h0 e.symm, e]
      · rw [upd_same] at h; cases h
      · exact .inr h
    · rcases h with (h | ⟨o, h⟩) | h
      · rw [upd_same] at h; cases h
      · rw [upd_same] at h; cases h
      · exact .inr h
  · refine ⟨fun h => ?_, fun h => ?_⟩
    · rcases h with (h | ⟨o, h⟩) | h
      · rw [upd_ne c] at h; exact .inl (.inl (s _ _ h))
      · rw [upd_ne c] at h; exact .inl (.inr ⟨o, s _ _ h⟩)
      · exact .inr h
    · rcases h with (h | ⟨o, h⟩) | h
      · rw [upd_ne c] at h; exact .inl (.inl (s _ _ h))
      · rw [upd_ne c] at h; exact .inl (.inr ⟨o, s _ _ h⟩)
      · exact .inr h
theorem Pd.nil {H : Hp} {us : List Addr} (h : Pd H us []) : us = [] := by
  cases us with
  | nil => rfl
  | cons _ _ => exact h.elim
/-- a pair behind a list, as a new tuple -/
theorem app_pair {H : Hp} {L T : Addr} {us : List Addr} {qs : List Pr} {x : Pr} (hL : H L = some (.lst (us.map V.ref))) (pu : Pd H us qs) (nT : H T = none) :
    (upd (upd H T (.tup [.int x.1, .int x.2])) L (.lst (us.map V.ref ++ [.ref T]))) L = some (.lst ((us ++ [T]).map V.ref)) ∧ Pd (upd (upd H T (.tup [.int x.1, .int x.2])) L (.lst (us.map V.ref ++ [.ref T]))) (us ++ [T]) (qs ++ [x]) := by
  refine ⟨by rw [upd_same, List.map_append]; rfl, ?_⟩
  have sT := Same.new (o := .tup [.int x.1, .int x.2]) nT
  have hL' := sT _ _ hL
  refine Pd.app (Pd.kp Kp.at_ (fun xs z => by rw [hL'] at z; cases z) (pu.same sT)) ⟨?_, trivial⟩
  rw [upd_ne (Ne.symm (ne_of_none hL nT)), upd_same]
theorem app_same {H0 H : Hp} {L T : Addr} {o u : HO} (s : Same H0 H) (nL : H0 L = none) (nT : H T = none) : Same H0 (upd (upd H T o) L u) := fun b w e => by
  rw [upd_ne (ne_of_none e nL), upd_ne (ne_of_none (s _ _ e) nT)]; exact s _ _ e
/-! ### events -/
abbrev Evt := Bool × Int
def evW (b : Bool) : V := .str (if b then "in" else "out")
def evP (e : Evt) : Bool := decide (-1000000000000000000000000000000 ≤ e.2) && decide (e.2 ≤ 1000000000000000000000000000000)
def Ev (H : Hp) : List Addr → List Evt → Prop
  | [], [] => True
  | t :: ts, e :: es => H t = some (.tup [evW e.1, .int e.2]) ∧ Ev H ts es
  | _, _ => False
theorem Ev.len {H : Hp} : ∀ {ts : List Addr} {ps : List Evt}, Ev H ts ps → ts.length = ps.length
  | [], [], _ => rfl
  | t :: ts, p :: ps, h => by simp [Ev.len h.2]
  | [], _ :: _, h => h.elim
  | _ :: _, [], h => h.elim
theorem Ev.same {H H' : Hp} (e : Same H H') : ∀ {ts : List Addr} {ps : List Evt}, Ev H ts ps → Ev H' ts ps
  | [], [], _ => trivial
  | t :: ts, p :: ps, h => ⟨e _ _ h.1, Ev.same e h.2⟩
  | [], _ :: _, h => h.elim
  | _ :: _, [], h => h.elim
theorem Ev.kp {q : Addr} {H H' : Hp} (e : Kp q H H') (hq : ∀ xs, H q ≠ some (.tup xs)) : ∀ {ts : List Addr} {ps : List Evt}, Ev H ts ps → Ev H' ts ps
  | [], [], _ => trivial
  | t :: ts, p :: ps, h => ⟨e _ _ (fun z => hq _ (z ▸ h.1)) h.1, Ev.kp e hq h.2⟩
  | [], _ :: _, h => h.elim
  | _ :: _, [], h => h.elim
theorem Ev.get {H : Hp} : ∀ {ts : List Addr} {ps : List Evt}, Ev H ts ps → ∀ {i : Nat} {t : Addr}, ts[i]? = some t → ∃ p, ps[i]? = some p ∧ H t = some (.tup [evW p.1, .int p.2])
  | [], [], _, i, t, h => by simp at h
  | t :: ts, p :: ps, h, 0, t', e => by
    simp at e; subst e
    exact ⟨p, rfl, h.1⟩
  | t :: ts, p :: ps, h, i + 1, t', e => by
    obtain ⟨q, h1, h2⟩ := Ev.get h.2 (i := i) (t := t') (by simpa using e)
    exact ⟨q, by simpa using h1, h2⟩
  | [], _ :: _, h, _, _, _ => h.elim
  | _ :: _, [], h, _, _, _ => h.elim
theorem Ev.app {H : Hp} : ∀ {ts : List Addr} {ps : List Evt} {us : List Addr} {qs : List Evt}, Ev H ts ps → Ev H us qs → Ev H (ts ++ us) (ps ++ qs)
  | [], [], _, _, _, h => h
  | t :: ts, p :: ps, _, _, h, k => ⟨h.1, Ev.app h.2 k⟩
  | [], _ :: _, _, _, h, _ => h.elim
  | _ :: _, [], _, _, h, _ => h.elim
theorem Ev.take {H : Hp} : ∀ {ts : List Addr} {ps : List Evt} (n : Nat), Ev H ts ps → Ev H (ts.take n) (ps.take n)
  | [], [], n, _ => by simp [Ev]
  | t :: ts, p :: ps, 0, _ => trivial
  | t :: ts, p :: ps, n + 1, h => ⟨h.1, Ev.take n h.2⟩
  | [], _ :: _, _, h => h.elim
  | _ :: _, [], _, h => h.elim
theorem Ev.drop {H : Hp} : ∀ {ts : List Addr} {ps : List Evt} (n : Nat), Ev H ts ps → Ev H (ts.drop n) (ps.drop n)
  | [], [], n, _ => by simp [Ev]
  | t :: ts, p :: ps, 0, h => h
  | t :: ts, p :: ps, n + 1, h => Ev.drop n h.2
  | [], _ :: _, _, h => h.elim
  | _ :: _, [], _, h => h.elim
def evD (e : Evt) : PyData := .tuple [.str (if e.1 then "in" else "out"), .int e.2]
theorem Ev.dp {K : PySem.W.Frag} {H : Hp} : ∀ {ts : List Addr} {ps : List Evt}, Ev H ts ps → DpAll K H (ts.map V.ref) (ps.map evD)
  | [], [], _ => .nil
  | t :: ts, p :: ps, h => .cons (.tup (SqT.hp h.1) (.cons (.str _) (.cons (.int _) .nil))) (Ev.dp h.2)
  | [], _ :: _, h => h.elim
  | _ :: _, [], h => h.elim
theorem evW_in (b : Bool) : decide (evW b = .str "in") = b := by cases b <;> decide +kernel
theorem evW_mem (b : Bool) : inV (evW b) [.str "in", .str "out"] = true := by cases b <;> decide +kernel
theorem evW_flat (b : Bool) : flatV (evW b) = true := by cases b <;> rfl
/-- the state behind the events up to a moment -/
def lastE (es : List Evt) : Bool := match es.getLast? with | some e => e.1 | none => false
def insE (es : List Evt) (m : Int) : Int := if lastE (es.filter fun e => decide (e.2 ≤ m)) = true then 1 else 0
theorem ev_filter {es : List Evt} {m : Int} {k : Nat} (s : es.Pairwise fun a b => a.2 ≤ b.2) (h1 : ∀ t ∈ es.take k, t.2 ≤ m) (h2 : ∀ t, es[k]? = some t → m < t.2) : (es.filter fun e => decide (e.2 ≤ m)) = es.take k := by
  have e := congrArg (List.filter fun e : Evt => decide (e.2 ≤ m)) (List.take_append_drop k es)
  rw [List.filter_append] at e
  rw [← e, List.filter_eq_self.mpr fun t ht => by simpa using h1 t ht, List.filter_eq_nil_iff.mpr, List.append_nil]
  intro t ht
  have hk : k < es.length := by
    rcases Nat.lt_or_ge k es.length with h | h
    · exact h
    · rw [List.drop_eq_nil_of_le h] at ht; cases ht
  have h0 := h2 _ (List.getElem?_eq_getElem hk)
  have gt : m < t.2 := by
    rw [List.drop_eq_getElem_cons hk] at ht
    rcases List.mem_cons.mp ht with rfl | ht
    · exact h0
    · have sp := List.pairwise_iff_getElem.mp s
      obtain ⟨i, hi, rfl⟩ := List.mem_iff_getElem.mp ht
      rw [List.getElem_drop]
      rw [List.length_drop] at hi
      have := sp k (k + 1 + i) hk (by omega) (by omega)
      omega
  simp only [decide_eq_true_eq]
  omega
theorem lastE_take {es : List Evt} {k : Nat} {e : Evt} (h : es[k]? = some e) : lastE (es.take (k + 1)) = e.1 := by
  unfold lastE
  rw [take_more h, List.getLast?_append]; rfl
theorem lastE_zero {es : List Evt} : lastE (es.take 0) = false := by rw [List.take_zero]; rfl
theorem rIxSq {K : PySem.W.Frag} {H : Hp} {a : Addr} {xs : List V} {i : Int} {v : V} {Q : VK} (sq : Sq K H a xs) (h : atI xs i = some v) (q : Q v H) : rIx K (.ref a) (.int i) H Q :=
  sq.elim (fun s => .inl ⟨a, xs, i, v, rfl, rfl, s, h, q⟩) (fun s => .inr (.inl ⟨a, xs, i, v, rfl, rfl, s, h, q⟩))
/-! ### a Moments -/
abbrev WTm : List V := [.str "some", .str "none", .str "all", .str "one", .str "two", .str "each", .str "inside"]
abbrev WFm : List V := [.str "any", .str "full", .str "one", .str "cut"]
theorem seven {P : Nat → Prop} {t : Nat} (h : t < 7) (h6 : t < 6 → P t) (h7 : P 6) : P t := by
  by_cases c : t < 6
  · exact h6 c
  · obtain rfl : t = 6 := by omega
    exact h7
theorem wnd_mem {t : Nat} (h : t < 7) : flatV (wndV t) = true ∧ inV (wndV t) WTm = true :=
  seven (P := fun t => flatV (wndV t) = true ∧ inV (wndV t) WTm = true) h (fun c => ⟨rfl, six (P := fun t => inV (wndV t) WTm = true) c (by decide +kernel) (by decide +kernel) (by decide +kernel) (by decide +kernel) (by decide +kernel) (by decide +kernel)⟩) (by decide +kernel)
theorem wnd_inside7 {t : Nat} (h : t < 7) : decide (wndV t = .str "inside") = decide (t = 6) :=
  seven (P := fun t => decide (wndV t = .str "inside") = decide (t = 6)) h (fun c => (wnd_inside c).trans (decide_eq_false (by omega)).symm) (by decide +kernel)
def momFs (t : Nat) (wi : Bool) (fm : Str) (z : Bool) : List (Str × V) := [(("which" : Str), wndV t), (("within" : Str), .bl wi), (("form" : Str), .str fm), (("ends" : Str), endsV z)]
def IsMom (H : Hp) (a C : Addr) (t : Nat) (wi : Bool) (fm : Str) (z : Bool) : Prop := ∃ dx : Addr, H a = some (.ins C dx (momFs t wi fm z))
theorem IsMom.same {H H' : Hp} {a C : Addr} {t : Nat} {wi : Bool} {fm : Str} {z : Bool} (h : IsMom H a C t wi fm z) (s : Same H H') : IsMom H' a C t wi fm z := by
  obtain ⟨dx, h1⟩ := h
  exact ⟨dx, s _ _ h1⟩
theorem mom_which (t : Nat) (wi : Bool) (fm : Str) (z : Bool) : List.lookup ("which" : Str) (momFs t wi fm z) = some (wndV t) := by simp [momFs, List.lookup]
theorem mom_within (t : Nat) (wi : Bool) (fm : Str) (z : Bool) : List.lookup ("within" : Str) (momFs t wi fm z) = some (.bl wi) := by
  have h1 : (("within" : Str) == ("which" : Str)) = false := by decide +kernel
  simp [momFs, List.lookup, h1]
theorem mom_form (t : Nat) (wi : Bool) (fm : Str) (z : Bool) : List.lookup ("form" : Str) (momFs t wi fm z) = some (.str fm) := by
  have h1 : (("form" : Str) == ("which" : Str)) = false := by decide +kernel
  have h2 : (("form" : Str) == ("within" : Str)) = false := by decide +kernel
  simp [momFs, List.lookup, h1, h2]
theorem mom_ends (t : Nat) (wi : Bool) (fm : Str) (z : Bool) : List.lookup ("ends" : Str) (momFs t wi fm z) = some (endsV z) := by
  have h1 : (("ends" : Str) == ("which" : Str)) = false := by decide +kernel
  have h2 : (("ends" : Str) == ("within" : Str)) = false := by decide +kernel
  have h3 : (("ends" : Str) == ("form" : Str)) = false := by decide +kernel
  simp [momFs, List.lookup, h1, h2, h3]
theorem mom_wanted (t : Nat) (wi : Bool) (fm : Str) (z : Bool) : List.lookup ("wanted" : Str) (momFs t wi fm z) = none := by
  have h1 : (("wanted" : Str) == ("which" : Str)) = false := by decide +kernel
  have h2 : (("wanted" : Str) == ("within" : Str)) = false := by decide +kernel
  have h3 : (("wanted" : Str) == ("form" : Str)) = false := by decide +kernel
  have h4 : (("wanted" : Str) == ("ends" : Str)) = false := by decide +kernel
  simp [momFs, List.lookup, h1, h2, h3, h4]
theorem mom_put (t : Nat) (wi : Bool) (fm : Str) (z : Bool) : putF "ends" (endsV z) (putF "form" (.str fm) (putF "within" (.bl wi) (putF "which" (wndV t) []))) = momFs t wi fm z := by
  have h1 : ¬ (("which" : Str) = ("within" : Str)) := by decide +kernel
  have h2 : ¬ (("which" : Str) = ("form" : Str)) := by decide +kernel
  have h3 : ¬ (("within" : Str) = ("form" : Str)) := by decide +kernel
  have h4 : ¬ (("which" : Str) = ("ends" : Str)) := by decide +kernel
  have h5 : ¬ (("within" : Str) = ("ends" : Str)) := by decide +kernel
  have h6 : ¬ (("form" : Str) = ("ends" : Str)) := by decide +kernel
  simp [putF, momFs, h1, h2, h3, h4, h5, h6]
structure MomC (K : PySem.W.Frag) (C : Addr) : Prop where
  cl : Cls K C
  nH : NoAttr K C "which"
  nW : NoAttr K C "within"
  nF : NoAttr K C "form"
  nE : NoAttr K C "ends"
/-- a class with a keyword-only part, made with all of it, with its last word alone, or with none of it -/
structure RdyMo (P : Program) (w : World) (K : PySem.W.Frag) (mg : Str → Option Value) (bh : Heap) (x : Str) (C : Addr) (k : Nat) (ps : List Str) (dvs : List V) (ks : List Str) (ms : List V) (sp : Sp) (f : Addr) (fd : FuncData) : Prop where
  ok : FnOk P w K mg bh CX0 k f fd ps sp
  mkr : Mk K C f
  gl : mg x = some (.ref C)
  bd1 : ∃ ds, Vals dvs ds ∧ Binds K fd ps ds
  kb : ∃ g, KBn K fd ps 2 ks g (fun vs zs => vs ++ zs)
  kb1 : ∃ g, KBn K fd ps 2 ["ends"] g (fun vs zs => vs ++ (ms ++ zs))
/-- what a Moments wants -/
def wtdT (t : Nat) (z : Bool) (ps : List Pr) (m : Int) : Int := wndB t (hldN z ps m) ps.length
def inW (wi z : Bool) (w : Pr) (m : Int) : Int := if wi then hldN z [w] m else 1
/-- len, the written part named (within a comprehension) -/
theorem call_lenK {X : Cx} {K : PySem.W.Frag} (h : X.K = K := by rfl) : CallR X (.builtin "len") (fun xs H Q => ∃ p ys, xs = [V.ref p] ∧ Sq K H p ys ∧ Q (.int ys.length) H) := h ▸ call_len_seq
theorem zipW (g h : Int → Int) : ∀ ms : List Int, List.zipWith (· * ·) (ms.map g) (ms.map h) = ms.map fun m => g m * h m
  | [] => rfl
  | m :: r => by simp [zipW g h r]
theorem hld1 (z : Bool) (w : Pr) (m : Int) : hldN z [w] m = if hldB z w m then 1 else 0 := by
  unfold hldN
  by_cases c : hldB z w m = true
  · simp [List.filter, c]
  · simp [List.filter, c]
theorem op_notInK {X : Cx} {K : PySem.W.Frag} (h : X.K = K := by rfl) : OpR X (compareOp .NotIn) (rIn K true) := h ▸ op_notIn_seq
/-- the law's own table of times -/
def rowsT (b0 b1 b2 b3 b4 : Bool) : List (Key × V) := [(Sum.inr ("some" : Str), .bl b0), (Sum.inr ("none" : Str), .bl b1), (Sum.inr ("all" : Str), .bl b2), (Sum.inr ("one" : Str), .bl b3), (Sum.inr ("two" : Str), .bl b4)]
theorem merge_rowsT (b0 b1 b2 b3 b4 : Bool) : mergeK [] (rowsT b0 b1 b2 b3 b4) = rowsT b0 b1 b2 b3 b4 := by cases b0 <;> cases b1 <;> cases b2 <;> cases b3 <;> cases b4 <;> decide +kernel
theorem val_rowsT {t : Nat} (h : t < 5) (b0 b1 b2 b3 b4 : Bool) : valV (rowsT b0 b1 b2 b3 b4) (Sum.inr (wndS t)) = some (.bl (if t = 0 then b0 else if t = 1 then b1 else if t = 2 then b2 else if t = 3 then b3 else b4)) := by
  have : t = 0 ∨ t = 1 ∨ t = 2 ∨ t = 3 ∨ t = 4 := by omega
  rcases this with rfl | rfl | rfl | rfl | rfl <;> cases b0 <;> cases b1 <;> cases b2 <;> cases b3 <;> cases b4 <;> decide +kernel
theorem sqK_kp {K : PySem.W.Frag} {H H' : Hp} {L a : Addr} {xs : List V} (k : Kp L H H') (c : a ≠ L) : SqK K H H' a xs := by
  refine ⟨fun h => ?_, fun h => ?_⟩
  · rcases h with (h | ⟨o, h⟩) | h
    · exact .inl (.inl (k _ _ c h))
    · exact .inl (.inr ⟨o, k _ _ c h⟩)
    · exact .inr h
  · rcases h with (h | ⟨o, h⟩) | h
    · exact .inl (.inl (k _ _ c h))
    · exact .inl (.inr ⟨o, k _ _ c h⟩)
    · exact .inr h
theorem flat_ints (ns : List Int) : (ns.map V.int).all flatV = true := by
  rw [List.all_map]
  exact List.all_eq_true.mpr fun _ _ => rfl
/-! ### a list that is kept sorted by insertion -/
theorem op_leTK {X : Cx} {K : PySem.W.Frag} (hu : X.A.units < cLine) (h : X.K = K := by rfl) : OpR X (compareOp .LtE) (rLeT K) := h ▸ op_leT hu
theorem lex2 (a b c d : Int) : Ob.lexAt (fun j => decide ([a, b].getD j 0 = [c, d].getD j 0)) (fun j => decide ([a, b].getD j 0 ≤ [c, d].getD j 0)) (decide ([a, b].length ≤ [c, d].length)) 0 (min [a, b].length [c, d].length) = decide (ple (a, b) (c, d)) := by
  show Ob.lexAt _ _ _ 0 2 = _
  unfold Ob.lexAt Ob.lexAt Ob.lexAt
  unfold ple
  simp
  by_cases h1 : a = c
  · by_cases h2 : b = d
    · simp [h1, h2]
    · simp [h1, h2]
  · simp [h1]
    omega
def cntL {α : Type} (κ : α → Pr) (l : List α) (k : Pr) : Nat := (l.filter fun x => decide (ple (κ x) k)).length
theorem ins_srt {α : Type} (κ : α → Pr) (e : α) : ∀ l : List α, l.Pairwise (fun x y => ple (κ x) (κ y)) → (l.take (cntL κ l (κ e)) ++ [e] ++ l.drop (cntL κ l (κ e))).Pairwise (fun x y => ple (κ x) (κ y))
  | [], _ => by simp [cntL]
  | x :: r, h => by
    obtain ⟨hx, hr⟩ := List.pairwise_cons.mp h
    by_cases c : ple (κ x) (κ e)
    · have e1 : cntL κ (x :: r) (κ e) = cntL κ r (κ e) + 1 := by
        unfold cntL
        rw [List.filter_cons_of_pos (by simpa using c), List.length_cons]
      rw [e1, List.take_succ_cons, List.drop_succ_cons, List.cons_append, List.cons_append]
      refine List.pairwise_cons.mpr ⟨fun y hy => ?_, ins_srt κ e r hr⟩
      rcases List.mem_append.mp hy with hy | hy
      · rcases List.mem_append.mp hy with hy | hy
        · exact hx y (List.mem_of_mem_take hy)
        · rw [List.mem_singleton.mp hy]; exact c
      · exact hx y (List.mem_of_mem_drop hy)
    · have e1 : cntL κ (x :: r) (κ e) = 0 := by
        unfold cntL
        rw [List.filter_eq_nil_iff.mpr]; rfl
        intro y hy
        rw [decide_eq_true_eq]
        rcases List.mem_cons.mp hy with rfl | hy
        · exact c
        · exact fun z => c (ple_trans (hx y hy) z)
      rw [e1, List.take_zero, List.drop_zero, List.nil_append, List.singleton_append]
      have ex : ple (κ e) (κ x) := by unfold ple at *; omega
      refine List.pairwise_cons.mpr ⟨fun y hy => ?_, h⟩
      rcases List.mem_cons.mp hy with rfl | hy
      · exact ex
      · exact ple_trans ex (hx y hy)
theorem cntL_le {α : Type} (κ : α → Pr) (l : List α) (k : Pr) : cntL κ l k ≤ l.length := List.length_filter_le ..
def lateK : List (Key × V) := [(Sum.inr ("at" : Str), .str "none"), (Sum.inr ("at in" : Str), .str "out"), (Sum.inr ("at out" : Str), .str "in")]
theorem merge_late : mergeK [] lateK = lateK := by decide +kernel
theorem late_of {w : Str} (h : w = "at" ∨ w = "at in" ∨ w = "at out") : ∃ lt : Str, valV lateK (Sum.inr w) = some (.str lt) := by
  rcases h with rfl | rfl | rfl
  · exact ⟨"none", by decide +kernel⟩
  · exact ⟨"out", by decide +kernel⟩
  · exact ⟨"in", by decide +kernel⟩
theorem cntL_snoc {α : Type} (κ : α → Pr) (l : List α) (x : α) (k : Pr) : cntL κ (l ++ [x]) k = cntL κ l k + (if decide (ple (κ x) k) = true then 1 else 0) := by
  unfold cntL
  rw [List.filter_append, List.length_append]
  by_cases c : ple (κ x) k
  · simp [List.filter, c]
  · simp [List.filter, c]
theorem lastE_snoc (l : List Evt) (e : Evt) (m : Int) : lastE ((l ++ [e]).filter fun e => decide (e.2 ≤ m)) = if decide (e.2 ≤ m) = true then e.1 else lastE (l.filter fun e => decide (e.2 ≤ m)) := by
  rw [List.filter_append]
  by_cases c : e.2 ≤ m
  · simp [List.filter, c, lastE]
  · simp [List.filter, c]
theorem insE_01 (es : List Evt) (m : Int) : insE es m = 0 ∨ insE es m = 1 := by
  unfold insE
  split
  · exact .inr rfl
  · exact .inl rfl
theorem reprI {u : Int} (h : u = 0 ∨ u = 1) : (PyData.int u).showable = true ∧ (PyData.int u).hasDict = false ∧ (PyData.int u).depth ≤ 64 ∧ (PyData.int u).shown.length ≤ sizeLine := by
  rcases h with rfl | rfl <;> decide +kernel
def evIn (i : Nat) : Str := if i = 0 then "at" else if i = 1 then "at in" else "at out"
theorem mem_ord {j : Nat} {x : V} (h : ([.str "at", .str "at in", .str "at out"] : List V)[j]? = some x) : ∃ w : Str, x = .str w ∧ (w = "at" ∨ w = "at in" ∨ w = "at out") := by
  match j, h with
  | 0, h => exact ⟨_, (Option.some.inj h).symm, .inl rfl⟩
  | 1, h => exact ⟨_, (Option.some.inj h).symm, .inr (.inl rfl)⟩
  | 2, h => exact ⟨_, (Option.some.inj h).symm, .inr (.inr rfl)⟩
theorem canLayEs : ∀ ps : List Evt, PyData.canLayAll0 (ps.map evD) = true
  | [] => rfl
  | p :: ps => by
    show (PyData.canLay0 (evD p) && PyData.canLayAll0 (ps.map evD)) = true
    rw [canLayEs ps]
    obtain ⟨b, i⟩ := p
    cases b <;> simp [evD, PyData.canLay0, PyData.canLayAll0] <;> decide +kernel
theorem depthEs : ∀ ps : List Evt, PyData.depthAll (ps.map evD) ≤ 1
  | [] => Nat.zero_le _
  | p :: ps => by
    have := depthEs ps
    show max (PyData.depth (evD p)) (PyData.depthAll (ps.map evD)) ≤ 1
    exact Nat.max_le.mpr ⟨by show PyData.depth (.tuple [.str _, .int p.2]) ≤ 1; simp [PyData.depth, PyData.depthAll], this⟩
theorem shapedEs (ps : List Evt) : SeqAt.shaped (.list (ps.map evD)) = true := by
  have h1 : PyData.canLay0 (.list (ps.map evD)) = true := canLayEs ps
  have h2 : PyData.depth (.list (ps.map evD)) ≤ 64 := by
    have := depthEs ps
    simp only [PyData.depth]; omega
  unfold SeqAt.shaped
  rw [h1, decide_eq_true h2]; rfl
theorem eqvEs : ∀ ps : List Evt, PyData.eqvAll (ps.map evD) (ps.map evD) = true
  | [] => rfl
  | p :: ps => by
    show (PyData.eqv (evD p) (evD p) && PyData.eqvAll (ps.map evD) (ps.map evD)) = true
    rw [eqvEs ps]
    obtain ⟨b, i⟩ := p
    show (((if b = true then ("in" : Str) else "out") == (if b = true then ("in" : Str) else "out")) && ((i == i) && true) && true) = true
    simp
theorem eqv_evs (ps : List Evt) : (!PyData.eqv (.list (ps.map evD)) (.list (ps.map evD))) = false := by
  rw [show PyData.eqv (.list (ps.map evD)) (.list (ps.map evD)) = true from eqvEs ps]; rfl
end Spk

/-! sets of ints: made of a list, and sorted, any number of them -/
namespace Spk
open PySem PySem.Spec PyProof.Rows L2
/-- an empty set as set() makes it -/
def setOb (w : World) : Obj := { cls := .type "set", dict := none, data := .set #[] 0 (.fresh 0 0 (!w.params.followText "set-order")) }
section
variable {P : Program} {w : World} {A : Around} {E : Value → Shared → Prop} {s : Shared}
theorem setList {l : Addr} {xs : Array Value} (ns : List Int) {Q : Value → Shared → Prop} (hh : A.handled = none) (hl : s.heap.IsList l xs) (hx : IntsAre xs.toList ns) (hb : ns.length + 1 < scanBound)
    (q : ∀ (h' : Heap) (tk c : Nat), SetR w h' s.heap.objs.size (fun j => decide (j ∈ ns)) c → c ≤ ns.length → (∀ b o, s.heap.get? b = some o → h'.get? b = some o) → Q (.ref s.heap.objs.size) { s with heap := h', toks := tk }) :
    wpAny (model P w) A (call (.type "set") [.ref l]) Q E s := by
  have e0 : xs.size = ns.length := by have := IntsAre.length hx; simpa using this
  obtain ⟨_, _, m1⟩ := F.called_set.mro
  have m2 := F.called_set.made; have m3 := F.called_set.sub; have m4 := F.called_set.notType; have m5 := F.called_set.canCreate
  have m6 := F.typeCall_set_1 (.ref l)
  refine wpAny_call (codeAny_of_tree (show wpAny _ _ (callAny (.type "set") _) _ _ _ from wpAny_pure ⟨Code.quiet_builtin _ (by decide +kernel), codeAny_builtin F.entry_type_call ?_⟩))
  rw [Around.under_plain (weight_type_call_type "set" [.ref l] []) rfl]
  repeat (any_goals (first | assumption | wp_step))
  have g0 : (s.heap.push (setOb w)).get? s.heap.objs.size = some (setOb w) := Heap.get?_push_size _ rfl
  refine codeAny_mono (code_set_led1 (.ref l) (E := E) (Q₁ := fun v t => v = .ref s.heap.objs.size ∧ t = { s with heap := s.heap.push (setOb w) }) ⟨rfl, rfl⟩) fun r t hr => ?_
  match r, hr with
  | .error _, hr => exact hr
  | .ok (.ret _), ⟨e1, e2⟩ =>
    subst e1 e2
    have ty : Shared.TypeIs { s with heap := s.heap.push (setOb w) } (.ref s.heap.objs.size) "set" := ⟨_, g0, rfl⟩
    have i1 := F.called_set.init.lookup; have i2 := F.called_set.init.bind (.ref s.heap.objs.size)
    repeat (any_goals (first | assumption | wp_step))
    refine codeAny_mono (codeAny_call_builtin (R := wants (fun v t => v = .none ∧ ∃ h' tk c, t = { s with heap := h', toks := tk } ∧ SetR w h' s.heap.objs.size (fun j => decide (j ∈ ns)) c ∧ c ≤ ns.length ∧ ∀ b o, s.heap.get? b = some o → h'.get? b = some o) E)
      F.called_set.init.plain F.entry_set_init (check_set_init_1 ty ?_)) fun r2 t2 hr2 => ?_
    · obtain ⟨⟨_, dd, _, ss⟩, o1, o2, n1, o3⟩ := hl
      dsimp only at o2 o3; subst o2 o3
      have o4 : (s.heap.push (setOb w)).get? l = some { cls := .type "list", dict := dd, data := .seq xs n1, slots := ss } := Heap.get?_push_of_some _ o1
      have t1 := F.sub_list_set; have t2 := F.sub_list_frozenset
      have t3 : (Value.type "list" == Value.type "dict") = false := by decide
      have isl : (s.heap.push (setOb w)).IsList l xs := ⟨_, o4, rfl, n1, rfl⟩
      unfold Builtin.«set.__init__» noKeywords Builtin.Frozenset.updateFrom
      generalize hp : pyIter = pI
      wp_walk
      subst hp
      refine wpAny_pyIter_list isl (wpAny_bind (wpAny_runValue ?_))
      have ll : l < s.heap.objs.size := Heap.lt_size o1
      have sz : (s.heap.push (setOb w)).objs.size = s.heap.objs.size + 1 := Heap.size_push ..
      have h3 : A.in1.in1.in1.handled = none := by simp [hh]
      have nI : l ≠ (s.heap.push (setOb w)).objs.size := by rw [sz]; exact Nat.ne_of_lt (Nat.lt_succ_of_lt ll)
      have nS : s.heap.objs.size ∉ [(s.heap.push (setOb w)).objs.size, l] := fun z => by
        rw [sz] at z
        rcases List.mem_cons.mp z with e | e
        · exact Nat.ne_of_lt (Nat.lt_succ_self _) e
        · exact Nat.ne_of_gt ll (List.mem_singleton.mp e)
      have val : ∀ (i : Nat) (v : Value), xs[i]? = some v → ∃ k t, ns[i]? = some k ∧ v = .int k t := by
        intro i v hv
        have hi : i < ns.length := e0 ▸ (Array.getElem?_eq_some_iff.mp hv).1
        obtain ⟨t, e⟩ := IntsAre.int_at hx i v ((Array.getElem?_toList ..).trans hv)
        exact ⟨ns[i], t, List.getElem?_eq_getElem hi, by rw [e, List.getD_eq_getElem?_getD, List.getElem?_eq_getElem hi]; rfl⟩
      refine set_update_ints (Walks.list h3 _ l nI xs).toS s.heap.objs.size nS ns e0 hb val (xs.size - 0) 0 _ rfl (Nat.zero_le _) ⟨⟨_, Heap.get?_push_size _ rfl, rfl, rfl⟩, isl.push _⟩
        ⟨0, Nat.le_refl 0, setR_new_at (Heap.get?_push_of_some _ g0)⟩ ?_
      rintro ⟨h', _, _, tk', _⟩ c' mv lc sr
      obtain ⟨eg, ed, eo⟩ := And.intro mv.gens (And.intro mv.drawn mv.os)
      dsimp only at eg ed eo; subst eg ed eo
      refine (show wpAny _ _ _ _ _ _ from wpAny_pure (show wpAny _ _ (ret Value.none) _ _ _ from wpAny_pure ⟨rfl, h', tk', c', rfl, sr, e0 ▸ lc, fun b o e => ?_⟩))
      have hb0 : b < s.heap.objs.size := Heap.lt_size e
      refine mv.heap b o (fun z => ?_) (Heap.get?_push_of_some _ (Heap.get?_push_of_some _ e))
      rw [sz] at z
      rcases List.mem_cons.mp z with z | z
      · exact Nat.ne_of_lt hb0 z
      · exact Nat.ne_of_lt (Nat.lt_succ_of_lt hb0) (List.mem_singleton.mp z)
    · match r2, hr2 with
      | .error _, hr2 => exact hr2
      | .ok (.ret _), ⟨e3, h', tk, c, e4, sr, lc, kp⟩ =>
        subst e3 e4
        repeat (any_goals (first | assumption | wp_step))
        exact q _ _ _ sr lc kp
theorem sortedSet {a : Addr} {S : Int → Bool} {n : Nat} {Q : Value → Shared → Prop} (R : SetR w s.heap a S n) (hh : A.handled = none)
    (q : ∀ t p (out : Array Value) (c : Nat) (ns : List Int), (∀ b o, s.heap.get? b = some o → t.heap.get? b = some o) → t.gens = s.gens → t.os = s.os → s.heap.objs.size ≤ p → t.heap.get? p = some (seqObj "list" out c) →
      IntsAre out.toList ns → ns.Pairwise (· < ·) → (∀ k, k ∈ ns ↔ S k = true) → ns.length ≤ sizeLine → Q (.ref p) t) :
    wpAny (model P w) A (call (.builtin "sorted") [.ref a]) Q E s := by
  obtain ⟨o, es, ep, t, ho, ex, hd, gd, nd, mem, sb, fit, rfl, ris, led⟩ := R
  refine Calls.call_function_entry kind_sorted plain_sorted entry_sorted (args_sorted1 _) ?_
  unfold Builtin.«sorted»
  refine wpAny_bind (m := checkCount "sorted" 1 1 _) (wpAny_pure (wpAny_bind (collect_set (A := A.in1) hh ⟨o, ho, ex.1, hd⟩ fit sb ris led fun s1 vs k1 z1 g1 o1 pm => ?_)))
  have lv : vs.length = es.size := by rw [pm.length_eq]; simp
  have zv : vs.length ≤ sizeLine := by rw [lv, sizeLine_eq]; unfold scanBound at sb; omega
  have vi : IntsAre vs (vs.map Builtin.Re.reRawOf) := ints_of vs fun v hv => by
    obtain ⟨e, he, rfl⟩ := List.mem_map.mp (pm.mem_iff.mp hv)
    obtain ⟨k, tk, h1, _⟩ := gd e he
    exact ⟨k, tk, h1⟩
  have pk : (vs.map Builtin.Re.reRawOf).Perm (es.toList.map keyOf) := by
    have := pm.map Builtin.Re.reRawOf
    rwa [List.map_map] at this
  refine wpAny_bind (wpAny_newList ?_ zv)
  have hL : (s1.heap.push (seqObj "list" vs.toArray 0)).get? s1.heap.objs.size = some (seqObj "list" vs.toArray 0) := Heap.get?_push_size _ rfl
  refine wpAny_bind (wpAny_holding (wpAny_call_entry slot_list_sort ⟨_, hL, rfl⟩ entry_list_sort (SrtO.list_sort_ord SrtO.swo_int hL zv (fun h2 => SrtO.ints_sortable vi h2) fun out h1 h2 => ⟨_, rfl, ?_⟩) (args_list_sort _)))
  obtain ⟨w1, w2, w3⟩ := SrtO.ints_out vi h1 h2
  obtain ⟨c, hc⟩ := sortedHeap_at (vs := vs) (out := out.toArray) hL
  have pn := w2.trans pk
  refine wpAny_pure ⟨_, rfl, q _ s1.heap.objs.size out.toArray c (out.map SrtO.iv) (fun b u e => ?_) g1 o1 z1 hc w1 (lt_of_le_nodup _ w3 (pn.nodup_iff.mpr nd)) (fun k => by rw [pn.mem_iff, ← mem k]) (by rw [w2.length_eq, List.length_map]; exact zv)⟩
  have e1 := k1 b u e
  have lt := Heap.lt_size e1
  show (sortedHeap _ _ _ _).get? b = some u
  rw [sortedHeap_old (Nat.ne_of_lt lt) (by rw [size_push']; exact Nat.lt_succ_of_lt lt)]
  exact Heap.get?_push_of_some _ e1
end
section
variable {X : Cx}
/-- set(xs), xs a list of ints -/
def rSetOf (K : PySem.W.Frag) (w : World) : List V → Hp → VK → Prop := fun xs H Q => ∃ (l : Addr) (ns : List Int), xs = [V.ref l] ∧ SqL K H l (ns.map V.int) ∧ ns.length ≤ 4000 ∧ ∀ a n, H a = none → Q (.ref a) (upd H a (SetO w a (fun j => decide (j ∈ ns)) n))
theorem cr_setOf (hc : X.calm = true) : CallR X (.type "set") (rSetOf X.K X.w) := by
  intro pins s σ H xs us Q I r h
  obtain ⟨l, ns, rfl, hl, hn, q⟩ := h
  rw [Vals.ref1 r]
  obtain ⟨its, rv, pl, hz⟩ := I.list hl
  have free : H s.heap.objs.size = none := I.hok.fresh (Nat.le_refl _)
  refine setList (P := X.prog) (w := X.w) ns (I.ok.hd hc) pl.isList (by simpa using rv.ints) (by unfold scanBound; omega) fun h' tk c R _ k => ?_
  exact ⟨.ref s.heap.objs.size, upd H s.heap.objs.size (SetO X.w s.heap.objs.size (fun j => decide (j ∈ ns)) c), I.laid (t' := tk) k (Nat.le_refl _) (setO_new R), rfl, q _ c free⟩
/-- sorted(set of ints), any number of members -/
def rSortSet (w : World) : List V → Hp → VK → Prop := fun vs H Q => ∃ (a : Addr) (S : Int → Bool) (n : Nat), vs = [V.ref a] ∧ H a = some (SetO w a S n) ∧
  ∀ (ns : List Int) (p : Addr), ns.Pairwise (· < ·) → (∀ k : Int, k ∈ ns ↔ S k = true) → H p = none → Q (.ref p) (upd H p (.lst (ns.map V.int)))
theorem cr_sortSet (hc : X.calm = true) : CallR X (.builtin "sorted") (rSortSet X.w) := by
  intro pins s σ H vs us Q I r h
  obtain ⟨a, S, n, rfl, ha, q⟩ := h
  have R := setO_get I ha
  rw [Vals.ref1 r]
  refine sortedSet R (I.ok.hd hc) fun t p out c ns k g o hp hg hi hs hm hz => ?_
  have free : H p = none := I.hok.fresh hp
  obtain ⟨_, _, _, _, _⟩ := t
  dsimp only at g o; subst g o
  exact ⟨.ref p, upd H p (.lst (ns.map V.int)), I.call (ch := []) (Un.laid k hp free) (I.hok.laid k hp ⟨by rw [List.length_map]; exact hz, out.toList, c, vals_of_ints hi, hg⟩) I.bare (fun _ z => nomatch z), rfl, q ns p hs hm free⟩
end
end Spk

/-! the begins that no other stretch reaches, the ends beyond which none goes: those of the union -/
namespace Spk
theorem strict_uniq : ∀ {l m : List Int}, l.Pairwise (· < ·) → m.Pairwise (· < ·) → (∀ k, k ∈ l ↔ k ∈ m) → l = m
  | [], [], _, _, _ => rfl
  | [], b :: m, _, _, h => absurd ((h b).mpr List.mem_cons_self) List.not_mem_nil
  | a :: l, [], _, _, h => absurd ((h a).mp List.mem_cons_self) List.not_mem_nil
  | a :: l, b :: m, hl, hm, h => by
    obtain ⟨l1, l2⟩ := List.pairwise_cons.mp hl
    obtain ⟨m1, m2⟩ := List.pairwise_cons.mp hm
    have e : a = b := by
      rcases List.mem_cons.mp ((h a).mp List.mem_cons_self) with e | e
      · exact e
      · rcases List.mem_cons.mp ((h b).mpr List.mem_cons_self) with e' | e'
        · exact e'.symm
        · have := m1 a e; have := l1 b e'; omega
    subst e
    refine congrArg (a :: ·) (strict_uniq l2 m2 fun k => ⟨fun hk => ?_, fun hk => ?_⟩)
    · rcases List.mem_cons.mp ((h k).mp (List.mem_cons_of_mem _ hk)) with e | e
      · have := l1 k hk; omega
      · exact e
    · rcases List.mem_cons.mp ((h k).mpr (List.mem_cons_of_mem _ hk)) with e | e
      · have := m1 k hk; omega
      · exact e
theorem gapd_pw2 : ∀ {l : List Pr}, gapd l = true → (∀ q ∈ l, q.1 ≤ q.2) → l.Pairwise fun a b => a.2 < b.1
  | [], _, _ => .nil
  | p :: r, h, hq => List.pairwise_cons.mpr ⟨gapd_lt h fun q m => hq q (List.mem_cons_of_mem _ m), gapd_pw2 (gapd_tail h) fun q m => hq q (List.mem_cons_of_mem _ m)⟩
theorem oneF_pw {z : Bool} {l : List Pr} (h : oneF z l = true) : l.Pairwise fun a b => a.2 < b.1 := gapd_pw2 (by unfold oneF at h; rw [Bool.and_eq_true] at h; exact h.2) (oneF_le h)
theorem oneF_full {z : Bool} {l : List Pr} (h : oneF z l = true) : ∀ p ∈ l, emp z p = false := fun p hp => by
  unfold oneF at h
  rw [Bool.and_eq_true, List.all_eq_true] at h
  simpa using h.1 p hp
theorem pw_two : ∀ {l : List Pr}, (l.Pairwise fun a b => a.2 < b.1) → ∀ {p q : Pr}, p ∈ l → q ∈ l → p = q ∨ p.2 < q.1 ∨ q.2 < p.1
  | c :: _, h, p, q, hp, hq => by
    obtain ⟨h1, h2⟩ := List.pairwise_cons.mp h
    rcases List.mem_cons.mp hp with e1 | hp
    · rcases List.mem_cons.mp hq with e2 | hq
      · exact .inl (e1.trans e2.symm)
      · exact .inr (.inl (e1 ▸ h1 q hq))
    · rcases List.mem_cons.mp hq with e2 | hq
      · exact .inr (.inr (e2 ▸ h1 p hp))
      · exact pw_two h2 hp hq
def uncB (l : List Pr) (b : Int) : Bool := decide ((l.filter fun o => decide (o.1 < b) && decide (b ≤ o.2)) = [])
def uncE (l : List Pr) (e : Int) : Bool := decide ((l.filter fun o => decide (o.1 ≤ e) && decide (e < o.2)) = [])
theorem filter_no {l : List Pr} {f : Pr → Bool} : l.filter f = [] ↔ ¬ ∃ o ∈ l, f o = true := by
  rw [List.filter_eq_nil_iff]
  exact ⟨fun h ⟨o, ho, e⟩ => h o ho e, fun h o ho e => h ⟨o, ho, e⟩⟩
theorem uncB_iff (z : Bool) {l : List Pr} {b : Int} : uncB l b = true ↔ ¬ cov z l (2 * b - 1) := by
  unfold uncB
  rw [decide_eq_true_eq, filter_no]
  refine not_congr ⟨fun ⟨o, ho, e⟩ => ⟨o, ho, ?_⟩, fun ⟨o, ho, e⟩ => ⟨o, ho, ?_⟩⟩
  · simp only [Bool.and_eq_true, decide_eq_true_eq] at e
    unfold covP; split <;> omega
  · unfold covP at e
    simp only [Bool.and_eq_true, decide_eq_true_eq]
    split at e <;> omega
theorem uncE_iff (z : Bool) {l : List Pr} {e : Int} : uncE l e = true ↔ ¬ cov z l (2 * e + (if z then 1 else 0)) := by
  unfold uncE
  rw [decide_eq_true_eq, filter_no]
  refine not_congr ⟨fun ⟨o, ho, h⟩ => ⟨o, ho, ?_⟩, fun ⟨o, ho, h⟩ => ⟨o, ho, ?_⟩⟩
  · simp only [Bool.and_eq_true, decide_eq_true_eq] at h
    unfold covP; cases z <;> simp <;> omega
  · unfold covP at h
    simp only [Bool.and_eq_true, decide_eq_true_eq]
    cases z <;> simp at h ⊢ <;> omega
def begL (l : List Pr) : List Int := (l.filter fun p => uncB l p.1).map (·.1)
def endL (l : List Pr) : List Int := (l.filter fun p => uncE l p.2).map (·.2)
theorem mem_begL {z : Bool} {l : List Pr} (hl : ∀ p ∈ l, emp z p = false) {k : Int} : k ∈ begL l ↔ cov z l (2 * k) ∧ ¬ cov z l (2 * k - 1) := by
  constructor
  · intro h
    obtain ⟨p, hp, rfl⟩ := List.mem_map.mp h
    obtain ⟨hp, hu⟩ := List.mem_filter.mp hp
    exact ⟨⟨p, hp, full_cov (hl p hp)⟩, (uncB_iff z).mp hu⟩
  · rintro ⟨⟨p, hp, c1, c2⟩, hn⟩
    have e : p.1 = k := Classical.byContradiction fun ne => hn ⟨p, hp, by omega, by omega⟩
    subst e
    exact List.mem_map.mpr ⟨p, List.mem_filter.mpr ⟨hp, (uncB_iff z).mpr hn⟩, rfl⟩
theorem mem_endL {z : Bool} {l : List Pr} (hl : ∀ p ∈ l, emp z p = false) {k : Int} : k ∈ endL l ↔ cov z l (2 * k - 1 + (if z then 1 else 0)) ∧ ¬ cov z l (2 * k + (if z then 1 else 0)) := by
  constructor
  · intro h
    obtain ⟨p, hp, rfl⟩ := List.mem_map.mp h
    obtain ⟨hp, hu⟩ := List.mem_filter.mp hp
    refine ⟨⟨p, hp, ?_⟩, (uncE_iff z).mp hu⟩
    have := hl p hp
    unfold emp at this
    unfold covP
    cases z <;> simp at this ⊢ <;> omega
  · rintro ⟨⟨p, hp, c1, c2⟩, hn⟩
    have e : p.2 = k := Classical.byContradiction fun ne => hn ⟨p, hp, by omega, by omega⟩
    subst e
    exact List.mem_map.mpr ⟨p, List.mem_filter.mpr ⟨hp, (uncE_iff z).mpr hn⟩, rfl⟩
theorem begL_one {z : Bool} {l : List Pr} (h : oneF z l = true) : begL l = l.map (·.1) := by
  unfold begL
  rw [List.filter_eq_self.mpr]
  intro p hp
  rw [uncB_iff z]
  rintro ⟨q, hq, c1, c2⟩
  have lp := oneF_le h p hp
  rcases pw_two (oneF_pw h) hp hq with rfl | g | g
  · omega
  · omega
  · split at c2 <;> omega
theorem endL_one {z : Bool} {l : List Pr} (h : oneF z l = true) : endL l = l.map (·.2) := by
  unfold endL
  rw [List.filter_eq_self.mpr]
  intro p hp
  rw [uncE_iff z]
  rintro ⟨q, hq, c1, c2⟩
  have lp := oneF_le h p hp
  have lq := oneF_le h q hq
  rcases pw_two (oneF_pw h) hp hq with rfl | g | g
  · omega
  · split at c1 <;> omega
  · split at c2 <;> omega
abbrev fullOf (z : Bool) (ps : List Pr) : List Pr := ps.filter fun p => !emp z p
theorem full_mem {z : Bool} {ps : List Pr} : ∀ p ∈ fullOf z ps, emp z p = false := fun p hp => by simpa using (List.mem_filter.mp hp).2
theorem beg_union {z : Bool} {ps : List Pr} {ns : List Int} (h1 : ns.Pairwise (· < ·)) (h2 : ∀ k, k ∈ ns ↔ k ∈ begL (fullOf z ps)) : ns = (unionM z ps).map (·.1) := by
  have o := union_one z ps
  refine strict_uniq h1 ?_ fun k => ?_
  · rw [List.pairwise_map]
    exact (oneF_pw o).imp_of_mem fun ha hb h => by have := oneF_le o _ ha; omega
  · rw [h2, ← begL_one o, mem_begL (z := z) full_mem, mem_begL (z := z) (oneF_full o), cov_filter, cov_filter, cov_union, cov_union]
theorem end_union {z : Bool} {ps : List Pr} {ns : List Int} (h1 : ns.Pairwise (· < ·)) (h2 : ∀ k, k ∈ ns ↔ k ∈ endL (fullOf z ps)) : ns = (unionM z ps).map (·.2) := by
  have o := union_one z ps
  refine strict_uniq h1 ?_ fun k => ?_
  · rw [List.pairwise_map]
    exact (oneF_pw o).imp_of_mem fun ha hb h => by have := oneF_le o _ hb; omega
  · rw [h2, ← endL_one o, mem_endL (z := z) full_mem, mem_endL (z := z) (oneF_full o), cov_filter, cov_filter, cov_union, cov_union]
theorem hld_cov {z : Bool} {p : Pr} {m : Int} : hldB z p m = true ↔ covP z p (2 * m) := by
  unfold hldB covP
  cases z <;> simp <;> omega
theorem hld_any {z : Bool} {ps : List Pr} {m : Int} : (ps.filter fun p => hldB z p m) = [] ↔ ¬ cov z ps (2 * m) := by
  rw [filter_no]
  exact not_congr ⟨fun ⟨o, ho, e⟩ => ⟨o, ho, hld_cov.mp e⟩, fun ⟨o, ho, e⟩ => ⟨o, ho, hld_cov.mpr e⟩⟩
theorem hld_le1 {z : Bool} {l : List Pr} (h : oneF z l = true) (m : Int) : (l.filter fun p => hldB z p m).length ≤ 1 := by
  have pw := (oneF_pw h).filter fun p => hldB z p m
  have all : ∀ p ∈ l.filter (fun p => hldB z p m), covP z p (2 * m) := fun p hp => hld_cov.mp (List.mem_filter.mp hp).2
  match hf : l.filter (fun p => hldB z p m), pw, all with
  | [], _, _ => exact Nat.zero_le _
  | [_], _, _ => exact Nat.le_refl _
  | a :: b :: r, pw, all =>
    have g := (List.pairwise_cons.mp pw).1 b List.mem_cons_self
    obtain ⟨_, c2⟩ := all a List.mem_cons_self
    obtain ⟨c3, _⟩ := all b (List.mem_cons_of_mem _ List.mem_cons_self)
    exfalso
    split at c2 <;> omega
/-- a moment is held by one pair of the union, if some stretch holds it, else by none -/
theorem hld_union {z : Bool} {ps : List Pr} (m : Int) : (((unionM z ps).filter fun p => hldB z p m).length : Int) = if (!decide ((ps.filter fun p => hldB z p m) = [])) = true then 1 else 0 := by
  have l1 := hld_le1 (union_one z ps) m
  by_cases c : cov z ps (2 * m)
  · have h1 : (ps.filter fun p => hldB z p m) ≠ [] := fun e => hld_any.mp e c
    have h2 : ((unionM z ps).filter fun p => hldB z p m) ≠ [] := fun e => hld_any.mp e ((cov_union z ps _).mpr c)
    have : 0 < ((unionM z ps).filter fun p => hldB z p m).length := List.length_pos_iff.mpr h2
    rw [decide_eq_false h1, if_pos (show (!false) = true from rfl)]
    omega
  · have h1 : (ps.filter fun p => hldB z p m) = [] := hld_any.mpr c
    have h2 : ((unionM z ps).filter fun p => hldB z p m) = [] := hld_any.mpr fun e => c ((cov_union z ps _).mp e)
    rw [h1, h2]
    rfl
end Spk
namespace Spk
open PySem PySem.Spec PyProof.Rows L2
theorem kitLst (ds : List PyData) : kitB (tyN (.list ds)) "list" = some true := by
  show kitB "list" "list" = some true
  decide +kernel
theorem Pd.ofAt {H : Hp} : ∀ {ts : List Addr} {ps : List Pr}, ts.length = ps.length → (∀ (i : Nat) t p, ts[i]? = some t → ps[i]? = some p → H t = some (.tup [.int p.1, .int p.2])) → Pd H ts ps
  | [], [], _, _ => trivial
  | t :: ts, p :: ps, l, h => ⟨h 0 t p rfl rfl, Pd.ofAt (by simpa using l) fun i t' p' h1 h2 => h (i + 1) t' p' (by simpa using h1) (by simpa using h2)⟩
  | [], _ :: _, l, _ => by simp at l
  | _ :: _, [], l, _ => by simp at l
theorem upd_free {H : Hp} {a r : Addr} {o : HO} (h : (upd H a o) r = none) : H r = none := by
  by_cases e : r = a
  · rw [e, upd_same] at h
    cases h
  · rwa [upd_ne e] at h
theorem emp_full {z : Bool} {p : Pr} (h : p.1 < p.2 ∨ z = true) (le : p.1 ≤ p.2) : emp z p = false := by
  unfold emp
  rcases h with h | h
  · cases z <;> simp <;> omega
  · subst h; simp; omega
theorem emp_not {z : Bool} {p : Pr} (h : ¬ p.1 < p.2) (hz : ¬ z = true) : emp z p = true := by
  have hz : z = false := by simpa using hz
  subst hz
  unfold emp
  simp; omega
abbrev bgs (F : List Pr) (i : Nat) : List Int := ((F.take i).filter fun p => uncB F p.1).map (·.1)
abbrev ens (F : List Pr) (i : Nat) : List Int := ((F.take i).filter fun p => uncE F p.2).map (·.2)
theorem bgs_len {F : List Pr} {i : Nat} : (bgs F i).length ≤ F.length := by
  rw [List.length_map]; exact Nat.le_trans (List.length_filter_le ..) (List.length_take_le' ..)
theorem ens_len {F : List Pr} {i : Nat} : (ens F i).length ≤ F.length := by
  rw [List.length_map]; exact Nat.le_trans (List.length_filter_le ..) (List.length_take_le' ..)
theorem bgs_yes {F : List Pr} {i : Nat} {p : Pr} (h : F[i]? = some p) (c : uncB F p.1 = true) : bgs F (i + 1) = bgs F i ++ [p.1] := by
  unfold bgs
  rw [take_more h, List.filter_append, List.filter_cons_of_pos (p := fun p : Pr => uncB F p.1) c, List.map_append]; rfl
theorem bgs_no {F : List Pr} {i : Nat} {p : Pr} (h : F[i]? = some p) (c : ¬ uncB F p.1 = true) : bgs F (i + 1) = bgs F i := by
  unfold bgs
  rw [take_more h, List.filter_append, List.filter_cons_of_neg (p := fun p : Pr => uncB F p.1) c, List.filter_nil, List.append_nil]
theorem ens_yes {F : List Pr} {i : Nat} {p : Pr} (h : F[i]? = some p) (c : uncE F p.2 = true) : ens F (i + 1) = ens F i ++ [p.2] := by
  unfold ens
  rw [take_more h, List.filter_append, List.filter_cons_of_pos (p := fun p : Pr => uncE F p.2) c, List.map_append]; rfl
theorem ens_no {F : List Pr} {i : Nat} {p : Pr} (h : F[i]? = some p) (c : ¬ uncE F p.2 = true) : ens F (i + 1) = ens F i := by
  unfold ens
  rw [take_more h, List.filter_append, List.filter_cons_of_neg (p := fun p : Pr => uncE F p.2) c, List.filter_nil, List.append_nil]
/-- a filter in a comprehension: one more pair is taken -/
theorem keep_more {H0 H4 : Hp} {D t : Addr} {us : List Addr} {f : Pr → Bool} {p : Pr} {i : Nat} {ps : List Pr} (ss : Same H0 H4) (nD : H0 D = none) (hD : H4 D = some (.lst (us.map V.ref))) (pu : Pd H4 us ((ps.take i).filter f)) (et : H4 t = some (.tup [.int p.1, .int p.2])) (hp : ps[i]? = some p) (c : f p = true) :
    ∃ us', Same H0 (upd H4 D (.lst (us.map V.ref ++ [.ref t]))) ∧ (upd H4 D (.lst (us.map V.ref ++ [.ref t]))) D = some (.lst (us'.map V.ref)) ∧ Pd (upd H4 D (.lst (us.map V.ref ++ [.ref t]))) us' ((ps.take (i + 1)).filter f) := by
  have nDt : D ≠ t := ne_of hD et (fun z => nomatch z)
  refine ⟨us ++ [t], fun b o hb => by rw [upd_ne (ne_of_none hb nD)]; exact ss _ _ hb, by rw [upd_same, List.map_append]; rfl, ?_⟩
  rw [take_more hp, List.filter_append, List.filter_cons_of_pos c]
  refine Pd.app (Pd.kp (Kp.at_ (p := D)) (fun xs z => by rw [hD] at z; cases z) pu) ⟨?_, trivial⟩
  rw [upd_ne (Ne.symm nDt)]
  exact et
theorem keep_less {H4 : Hp} {us : List Addr} {f : Pr → Bool} {p : Pr} {i : Nat} {ps : List Pr} (pu : Pd H4 us ((ps.take i).filter f)) (hp : ps[i]? = some p) (c : f p = false) : Pd H4 us ((ps.take (i + 1)).filter f) := by
  rw [take_more hp, List.filter_append, List.filter_cons_of_neg (by rw [c]; decide), List.filter_nil, List.append_nil]
  exact pu
theorem filt_len {f : Pr → Bool} {ps : List Pr} {i : Nat} : ((ps.take i).filter f).length ≤ ps.length := Nat.le_trans (List.length_filter_le ..) (List.length_take_le' ..)
end Spk
namespace Spk
open PySem PySem.Spec PyProof.Rows L2
theorem iteTe {c : Bool} {A B : Prop} (h : c = true) (a : A) : if c = true then A else B := by
  rw [h, if_pos rfl]; exact a
theorem cut_last (xs : List V) (x : V) : cutV (xs ++ [x]) none (some (-1)) = xs := by
  unfold cutV HT.sIx
  simp
  rw [show (-1 + ((xs.length : Int) + 1)).toNat = xs.length from by omega, List.take_left]
theorem eqv_eq {l k : List Pr} (e : l = k) : PyData.eqv (.list (l.map prD)) (.list (k.map prD)) = true := by rw [eqvPs, decide_eq_true e]
theorem eqv_neq {l k : List Pr} (e : l = k) : (!PyData.eqv (.list (l.map prD)) (.list (k.map prD))) = false := by rw [eqv_eq e]; rfl
end Spk

namespace Spk
open PySem PySem.Spec PyProof.Rows L2
/-! ### try: .. except X as n: .. except Y as m: .. -/
/-- a clause: the class, the slot of its name, the suite's reading -/
structure Cl where
  c : Value
  i : Nat
  ts : Addr → Value → Option Addr → TS
def wCl (K : PySem.W.Frag) (W0 : WX) (D : L2.Ends) : List Cl → WX
  | [] => W0
  | k :: r => fun cls d σ H => ∃ b, PySem.W.exmOne K cls k.c = some b ∧
      (b = true → ∀ a, H a = none → k.ts a cls d { nx := fun τ J => D.nx (τ.set k.i none) J, rt := D.rt, bk := fun τ J => D.bk (τ.set k.i none) J, ct := fun τ J => D.ct (τ.set k.i none) J } (σ.set k.i (some (.ref a))) H) ∧
      (b = false → wCl K W0 D r cls d σ H)
inductive ClOk (X : Cx) : List ExceptHandler → List Cl → Prop
  | nil : ClOk X [] []
  | cons {x n : Str} {k : Cl} {s0 : Stmt} {su : List Stmt} {np hp : Pos} {hds : List ExceptHandler} {l : List Cl} (hi : X.N[k.i]? = some n) (hln : X.env.kindOf n = some .local) (hc : Names X x k.c)
      (hsu : ∀ (a : Addr) (oe : Obj) (cls : Value) (d : Option Addr) (pn : List (Addr × Obj)), Zc cls d oe → (∃ vs, oe.data = .fields vs) → PSs (X.suite a ((a, oe) :: pn)) (s0 :: su) (k.ts a cls d))
      (r : ClOk X hds l) : ClOk X (.ExceptHandler (some (.Name x np)) (some n) (s0 :: su) hp :: hds) (k :: l)
section
variable {X : Cx} {bd : List Stmt} {h0 : ExceptHandler} {hds : List ExceptHandler} {l : List Cl} {pos : Pos} {tb : WX → TS} {W0 : WX}
theorem ps_tryN (hst : X.stack = X.env :: X.outer) (hfl : X.env.frame = some X.env.locals) (nd : X.N.Nodup) (tk : Takes X W0)
    (hbd : ∀ (W : WX) (pn : List (Addr × Obj)) (xe : Value → Shared → Prop), Takes (X.tr pn xe) W → PassesOwn (model X.prog X.w) X.A X.env xe → PSs (X.tr pn xe) bd (tb W))
    (hk : ClOk X (h0 :: hds) l) : PS X (.Try bd (h0 :: hds) [] [] pos) (fun D σ H => tb (wCl X.K W0 D l) D σ H) := by
  refine ⟨fun pins s σ H D I h => wpAny_Try_except ?_⟩
  have okx := I.ok
  have fra : X.A.frames = some (X.env :: X.outer) := okx.frames.trans (congrArg some hst)
  refine wpAny_mono ((hbd (wCl X.K W0 D l) (X.pn ++ pins) (fun e s₁ => wpAny (model X.prog X.w) X.A (noteFrame e X.env) (fun _ s₂ => wpAny (model X.prog X.w) X.A (setFlight e none) (fun _ s₃ =>
      wpAny (model X.prog X.w) X.A (handleBy e X.env (h0 :: hds)) (SP X pins D) X.xe s₃) X.xe s₂) X.xe s₁) (fun u s1 xx => ?_) PassesOwn.looking).run [] s σ H D (I.toTry _) h) (fun fl s1 hsp => ?_) (fun _ _ z => z)
  · obtain ⟨ea, gr, si, pi', τ, J, cls, d, rfl, Jt, nbg, upg, skg, nea, oss, agg, wc⟩ := xx
    have iJ : Inv X pins τ J si := Jt.ofTry okx
    have sk2 : Sky gr (X.env :: X.outer) ea (Zc cls d) X.env.locals s1.heap := hst ▸ skg
    show wpAny (model X.prog X.w) X.A (noteFrame (.ref ea) X.env) _ _ _
    refine Sky.land Zc.steady fra hfl sk2 fun g3 f3 u3 => ?_
    have i3 : Inv X pins τ J { s1 with heap := g3 } := iJ.landed nbg f3.1 (upg.trans u3) oss agg
    obtain ⟨o3, v3, e3, z3, d3⟩ := f3.there
    have nfr : ea ∉ frs (X.env :: X.outer) := fun hm => by
      obtain ⟨_, o', e', hnf⟩ := f3.2.2.1.mem hm
      obtain rfl := Option.some.inj (e3.symm.trans e')
      exact hnf _ d3
    have nL : ea ≠ X.env.locals := fun z => nfr (List.mem_filterMap.mpr ⟨X.env, List.mem_cons_self, by rw [hfl, z]⟩)
    have nF : ea ∉ X.fs := fun hm => by
      obtain ⟨en, he, q⟩ := List.mem_filterMap.mp hm
      exact nfr (List.mem_filterMap.mpr ⟨en, List.mem_cons_of_mem _ he, q⟩)
    have su3 := i3.suite e3 d3 nea nL nF
    have go : ∀ {hs2 : List ExceptHandler} {l2 : List Cl}, ClOk X hs2 l2 → wCl X.K W0 D l2 cls d τ J → wpAny (model X.prog X.w) X.A (handleBy (.ref ea) X.env hs2) (SP X pins D) X.xe { s1 with heap := g3 } := by
      intro hs2 l2 ck
      induction ck with
      | nil =>
        intro wn
        refine wpAny_handleBy_nil ?_
        obtain ⟨_, _, _, oe, vs, T, oT, ts', he, hz, hd, h1, hr⟩ := id f3
        unfold PySem.passOn
        refine wpAny_bind (wpAny_field he hd h1 ?_)
        rw [if_neg (show ¬ ((Value.ref T == Value.none) = true) from by simp)]
        have last : wpAny (model X.prog X.w) X.A (setFlight (.ref ea) X.env.frame) (fun _ s4 => wpAny (model X.prog X.w) X.A (throw (.ref ea) : Sem Flow) (SP X pins D) X.xe s4) X.xe { s1 with heap := g3 } := by
          rw [hfl]
          refine HandSPX.setFlight_upZ f3 fun g4 f4 u4 => wpAny_throw (tk _ _ ?_)
          exact ⟨ea, gr, si, pins, τ, J, cls, d, rfl, iJ, nbg, (upg.trans u3).trans u4, .inr (.inr (hst ▸ f4)), nea, oss, agg, wn⟩
        first
          | exact wpAny_bind (wpAny_pure (wpAny_bind last))
          | exact wpAny_bind last
      | @cons x n k s0 su np hp hds' l' hi hln hc hsu r ih =>
        intro wn
        obtain ⟨b, hb1, yes, no⟩ := wn
        refine wpAny_handleBy_cons (codeAny_handlers_test ?_) (fun q => nomatch q)
        have lt : PySem.W.Looks (model X.prog X.w) g3 (typeOf (.ref ea)) cls := fun _ _ _ _ kk q => wpAny_typeOf_ref (kk _ _ e3) (by rw [z3.1]; exact q)
        have lm := PySem.W.exm_one (M := model X.prog X.w) i3.kIn lt hb1
        have tst : ∀ {Q : Value → Shared → Prop} {E : Value → Shared → Prop}, Q k.c { s1 with heap := g3 } → wpAny (model X.prog X.w) (X.A.mark (some (.ref ea))) (eval (.Name x np) X.env) Q E { s1 with heap := g3 } := fun {Q E} q => by
          obtain ⟨hg, hdb, hm | ⟨hm, hv, hnn⟩⟩ := hc
          · exact ld_glob (X := X.suite ea ((ea, o3) :: (X.pn ++ pins))) su3 hg hm q hdb
          · exact ld_blt (X := X.suite ea ((ea, o3) :: (X.pn ++ pins))) su3 hg hm hv q hnn hdb
        refine tst (lm.here ?_)
        cases b with
        | true =>
          refine codeAny_handlers_suite_as (HandSPX.lands_againZ f3 fun g4 f4 u4 => ?_)
          have i4 : Inv X pins τ J { s1 with heap := g4 } := iJ.landed nbg f4.1 ((upg.trans u3).trans u4) oss agg
          obtain ⟨o4, v4, e4, z4, d4⟩ := f4.there
          have su4 := i4.suite e4 d4 nea nL nF
          refine store_ok (X := X.suite ea ((ea, o4) :: (X.pn ++ pins))) (v := .ref ea) su4 nd hi (.inl hln) rfl (fun s5 su5 => ?_) (.inr hln)
          refine wpAny_mono ((hsu ea o4 cls d (X.pn ++ pins) z4 ⟨_, d4⟩).run [] s5 _ J _ su5 (yes rfl ea nea)) (fun fl s6 hsp => ?_) (fun _ _ z => False.elim z)
          have gone : ∀ {τ6 : L2.St} {J6 : Hp} {Q : Shared → Prop}, Inv (X.suite ea ((ea, o4) :: (X.pn ++ pins))) [] τ6 J6 s6 → (∀ s7, Inv X pins (τ6.set k.i none) J6 s7 → Q s7) →
              wpAny (model X.prog X.w) X.A (do bindName X.env n .none; unbindBehindTheSuite X.env n hp) (fun _ s7 => Q s7) X.xe s6 := fun {τ6 J6 Q} s6i hq => gone_ok (s6i.unsuite okx) nd hi hln hq
          match fl, hsp with
          | .next, ⟨τ6, J6, i6, q6⟩ => exact gone i6 fun s7 i7 => ⟨_, _, i7, q6⟩
          | .brk, ⟨τ6, J6, i6, q6⟩ => exact gone i6 fun s7 i7 => ⟨_, _, i7, q6⟩
          | .cont, ⟨τ6, J6, i6, q6⟩ => exact gone i6 fun s7 i7 => ⟨_, _, i7, q6⟩
          | .ret u, ⟨v6, τ6, J6, i6, r6, q6⟩ => exact gone i6 fun s7 i7 => ⟨_, _, _, i7, r6, q6⟩
        | false =>
          show wpAny _ X.A (handleBy (.ref ea) X.env hds') _ _ _
          exact ih (no rfl)
    exact go hk wc
  · match fl, hsp with
    | .next, ⟨τ, J, i', q⟩ => exact wpAny_execs_nil ⟨τ, J, i'.ofTry okx, q⟩
    | .brk, ⟨τ, J, i', q⟩ => exact ⟨τ, J, i'.ofTry okx, q⟩
    | .cont, ⟨τ, J, i', q⟩ => exact ⟨τ, J, i'.ofTry okx, q⟩
    | .ret u, ⟨v, τ, J, i', r, q⟩ => exact ⟨v, τ, J, i'.ofTry okx, r, q⟩
end
end Spk

namespace Spk
open PySem PySem.Spec PyProof.Rows L2
/-- isinstance(e, c), e the error that the suite holds at a: of the own class at D, with its dict -/
def rIsD (K : PySem.W.Frag) (a : Addr) (cls : Value) (d : Option Addr) : List V → Hp → VK → Prop := fun xs H Q =>
  ∃ (D dd : Addr) (fs : List (Str × V)) (c : V) (cv : Value) (b : Bool), cls = .ref D ∧ d = some dd ∧ H dd = some (.xd fs) ∧ xs = [.ref a, c] ∧ ClsV c cv ∧ ExcC K D ∧ PySem.W.kitOne K (.ref D) cv = some b ∧ Q (.bl b) H
theorem call_isD {X : Cx} {a : Addr} {oe : Obj} {cls : Value} {d : Option Addr} {pn : List (Addr × Obj)} (hz : Zc cls d oe) (hf : ∃ vs, oe.data = .fields vs) :
    CallR (X.suite a ((a, oe) :: pn)) (.builtin "isinstance") (rIsD X.K a cls d) := by
  intro pins s σ H xs us Q I r h
  obtain ⟨D, dd, fs, c, cv, b, rfl, rfl, hdd, rfl, kc, C, e, q⟩ := h
  obtain ⟨u1, u2, rfl, r1, r2⟩ := vals2 r
  obtain rfl : u1 = Value.ref a := r1
  have e2 := kc.eq r2
  subst e2
  obtain ⟨ha, _⟩ := I.pin (a, oe) (List.mem_append_left _ List.mem_cons_self)
  obtain ⟨vs, hv⟩ := hf
  obtain ⟨mA, hns, _⟩ := (show ObjOk X.prog X.w H s.heap dd (.xd fs) from I.hok dd _ hdd)
  obtain ⟨od, ho, _⟩ := lookIn_ns hns
  have J : PySem.W.InstAt s.heap a oe D (some od) := ⟨ha, hz.1, by unfold PySem.W.notCls; rw [hv] <;> rfl, by rw [hz.2]; exact ho⟩
  have hcl : (PySem.W.clsIn X.K D).isSome = true := by
    obtain ⟨cd, hc, _⟩ := PySem.W.any_some C.hd
    rw [hc]; rfl
  exact PySem.W.kia_one (PySem.W.kitx_exc hcl C.hg C.hk C.hs C.ha C.hn C.ht C.hm) I.kIn J e (fun z => nomatch z) fun tk => ⟨.bl b, H, I.kept (t' := tk) fun _ _ z => z, rfl, q⟩
end Spk

namespace Spk
open PySem PySem.Spec PyProof.Rows L2
/-! ### an own error over ValueError whose __init__ stores its one argument under f -/
def sp_init (C : Addr) (f : Str) : Sp := fun vs H Q _ => ∃ (a : Addr) (v : V), vs = [.ref a, v] ∧ H a = some (exo a C none) ∧ ∀ dx, H dx = none → dx ≠ a → Q .non (upd (upd H dx (exd dx [(f, v)])) a (exo a C (some dx)))
/-- what the top has left of the class -/
structure ErrT (P : Program) (w : World) (K : PySem.W.Frag) (mg : Str → Option Value) (bh : Heap) (x f : Str) (C fI : Addr) (fd : FuncData) : Prop where
  oex : OexC K C
  xf : XfC K C
  noF : PySem.W.findIn K (.ref C) f = some none
  iC : PySem.W.findIn K (.ref C) "__init__" = some (some (.ref fI))
  tI : PySem.W.typeIn K (.ref fI) = some (.type "function")
  gC : mg x = some (.ref C)
  ini : FnOk P w K mg bh CX0 1 fI fd ["self", f] (sp_init C f)
  bd : Binds K fd ["self", f] []
  self : PySem.W.exmOne K (.ref C) (.ref C) = some true
/-- the answer to what the making of an error asks: for each new d the way out -/
theorem errK {C : Addr} {f : Str} {v : V} {H1 : Hp} {Q : XK} (h : ∀ d, H1 d = none → Q (.ref C) (some d) (upd H1 d (.xd [(f, v)]))) :
    ([v] : List V).length ≤ 1000 ∧ ∀ a, H1 a = none → sp_init C f (.ref a :: ([v] ++ [])) (upd H1 a (exo a C none))
      (fun w H2 => w = .non ∧ ∃ (d : Addr) (fs : List (Str × V)), H2 a = some (exo a C (some d)) ∧ H2 d = some (exd d fs) ∧ H1 d = none ∧ Q (.ref C) (some d) (upd (del H2 a) d (.xd fs))) (fun _ _ _ => False) := by
  refine ⟨by simp, fun a na => ⟨a, v, rfl, upd_same, fun dx ndx nea => ⟨rfl, dx, [(f, v)], upd_same, (upd_ne nea).trans upd_same, (upd_ne nea).symm.trans ndx, ?_⟩⟩⟩
  have e : upd (del (upd (upd (upd H1 a (exo a C none)) dx (exd dx [(f, v)])) a (exo a C (some dx))) a) dx (.xd [(f, v)]) = upd H1 dx (.xd [(f, v)]) := by
    funext b
    by_cases h1 : b = dx
    · subst h1; rw [upd_same, upd_same]
    · rw [upd_ne h1, upd_ne h1]
      by_cases h2 : b = a
      · subst h2; rw [del_same, na]
      · rw [del_ne h2, upd_ne h2, upd_ne h1, upd_ne h2]
  rw [e]
  exact h dx ((upd_ne nea).symm.trans ndx)
section
variable {X : Cx} {x f : Str} {C fI : Addr} {fd : FuncData} {e : Expr} {te : TE} {W : WX} {p pos pos2 : Pos}
/-- raise X(e) -/
theorem ps_raiseE {k : Nat} (hc : X.calm = true) (T : ErrT X.prog X.w X.K X.mg X.base x f C fI fd) (rm : Room k X.A) (hk : 2 ≤ k) (tk : Takes X W) (hg : Gl X x) (he : PE X e te) (hdb : (x == ("__debug__" : Str)) = false := by decide)
    (hs : starEach [e] X.env = (false, eval e X.env) :: starEach [] X.env := by rfl) (hpl : (backTo pos (starEach [] X.env)).any (·.1) = false := by rfl) :
    PS X (.Raise (some (.Call (.Name x p) [e] [] pos)) none pos2) (fun _ σ H => tMkO C (sp_init C f) [] (tCons te tNil) σ H fun cls d H' => W cls d σ H') :=
  ps_raise hc tk (pmk_oex T.oex T.iC T.tI T.ini (rm.mono hk) T.bd .nil pass0 hg T.gC (pa_cons he pa_nil hs) hdb hs hpl)
end
section
variable {P : Program} {w : World} {K : PySem.W.Frag} {mg : Str → Option Value} {bh : Heap} {C : Addr} {f qu : Str} {st : Stmt} {fI : Addr} {fd : FuncData} {q1 q2 q3 q4 : Pos}
/-- the __init__ of such a class -/
theorem ok_init (F : Fun K "__init__" qu st fI fd) (S : FnScope ["self", f] ["self", f] (defScope st)) (O : OexC K C) (noF : PySem.W.findIn K (.ref C) f = some none)
    (hb : defBody st = [.Assign [.Attribute (.Name "self" q1) f q2] (.Name f q3) q4]) (hf1 : (f == ("__debug__" : Str)) = false) (hf2 : (f == ("__classdict__" : Str)) = false)
    (v0 : (defScope st).names.lookup ("self" : Str) = some .local) (v1 : (defScope st).names.lookup f = some .local) : FnOk P w K mg bh CX0 1 fI fd ["self", f] (sp_init C f) := by
  refine F.ok S (fun vs H Q E h => ?_) (fun cdv A outer s H vs Q E hr h => ?_)
  · obtain ⟨a, v, rfl, _⟩ := h
    rfl
  · obtain ⟨a, v, rfl, ha, q⟩ := h
    rw [hb]
    refine ⟨_, pss_one (ps_ost (pv 0 rfl (Or.inl v0) (by decide) (by decide)) (pv 1 rfl (Or.inl v1) hf1 hf2)), ?_⟩
    exact ⟨_, rfl, _, rfl, a, C, rfl, O, noF, .inl ⟨ha, fun dx n ne => q dx n ne⟩⟩
end
end Spk

namespace Spk
open PySem PySem.Spec PyProof.Rows L2
theorem chr_lt (c : Char) : c.toNat < 0x110000 := by
  have h := c.valid
  show c.val.toNat < 0x110000
  rcases h with h | h
  · have : c.val.toNat < 0xd800 := h
    omega
  · exact h.2
theorem ofS_ok (s : String) : PyData.canLay0 (.str (Str.ofString s)) = true := by
  show (Str.ofString s).cps.all (· < 0x110000) = true
  rw [PySem.Str.ofString_eq_toList]
  show (s.toList.map Char.toNat).toArray.all (· < 0x110000) = true
  rw [List.all_toArray, List.all_eq_true]
  intro n hn
  obtain ⟨c, _, rfl⟩ := List.mem_map.mp hn
  exact decide_eq_true (chr_lt c)
/-! ### objects that may be shown and compared -/
structure OkD (d : PyData) : Prop where
  sh : d.showable = true
  nd : d.hasDict = false
  dp : d.depth ≤ 60
  ln : d.shown.length ≤ sizeLine
  ok : PyData.canLay0 d = true
  st : PyData.canLay0 (.str d.shown) = true
theorem OkD.shaped {d : PyData} (h : OkD d) : SeqAt.shaped d = true := by
  unfold SeqAt.shaped
  rw [h.ok, decide_eq_true (Nat.le_trans h.dp (by decide))]; rfl
theorem okD_int {i : Int} (h : i.natAbs.log2 < 1920) : OkD (.int i) where
  sh := by simpa [PyData.showable] using h
  nd := rfl
  dp := Nat.zero_le _
  ln := by rw [PyData.shown_int]; exact int_text_fits h
  ok := rfl
  st := by
    rw [PyData.shown_int]
    exact ofS_ok _
theorem log_of {i : Int} (h : -1000000000000000000000000000000000000000000000 ≤ i) (h2 : i ≤ 1000000000000000000000000000000000000000000000) : i.natAbs.log2 < 1920 :=
  Nat.lt_of_lt_of_le (PySem.Flt.log2_lt_of (k := 200) (by decide) (by omega)) (by decide)
theorem okD_bool (b : Bool) : OkD (.bool b) := by cases b <;> exact ⟨by decide +kernel, by decide +kernel, by decide +kernel, by decide +kernel, by decide +kernel, by decide +kernel⟩
theorem okD_none : OkD .none := ⟨by decide +kernel, by decide +kernel, by decide +kernel, by decide +kernel, by decide +kernel, by decide +kernel⟩
end Spk
namespace Spk
open PySem PySem.Spec PyProof.Rows L2
def rNotInT (K : PySem.W.Frag) : R2 := fun x y H Q => ∃ d ds, Dp K H x d ∧ Dp K H y (.tuple ds) ∧ SeqAt.shaped d = true ∧ PyData.canLayAll0 ds = true ∧ Q (.bl (!ds.any fun z => PyData.eqv z d)) H
section
variable {X : Cx}
theorem op_notInT (hu : X.A.units + 65 < cLine) : OpR X (compareOp .NotIn) (rNotInT X.K) := by
  intro pins s σ H x y v u Q I rx ry h
  obtain ⟨d, ds, hd, he, sd, se, q⟩ := h
  obtain ⟨as, r1⟩ := Dp.reads I d x v hd rx
  obtain ⟨bs, r2⟩ := Dp.reads I (.tuple ds) y u he ry
  exact SeqAt.notIn_tuple_reads r2 r1 se (SeqAt.canLay_of_shaped sd) (room_in_shaped sd hu) ⟨.bl _, H, I, rfl, q⟩
end
/-! ### a def that may raise, ready to be called -/
structure RdyX (P : Program) (w : World) (K : PySem.W.Frag) (mg : Str → Option Value) (bh : Heap) (x : Str) (k : Nat) (ps : List Str) (sp : Sp) (f : Addr) (fd : FuncData) : Prop where
  ok : FnOk P w K mg bh (L2.CX P w) k f fd ps sp
  gl : mg x = some (.ref f)
  kp : PySem.W.keepIn K (.ref f) = true
  bd : Binds K fd ps []
structure RdyXD (P : Program) (w : World) (K : PySem.W.Frag) (mg : Str → Option Value) (bh : Heap) (x : Str) (k : Nat) (ps : List Str) (dvs : List V) (sp : Sp) (f : Addr) (fd : FuncData) : Prop where
  ok : FnOk P w K mg bh (L2.CX P w) k f fd ps sp
  gl : mg x = some (.ref f)
  kp : PySem.W.keepIn K (.ref f) = true
  bd : Binds K fd ps []
  bd1 : ∃ ds, Vals dvs ds ∧ Binds K fd ps ds
section
variable {X : Cx} {x : Str} {k j : Nat} {ps : List Str} {dvs : List V} {sp : Sp} {f : Addr} {fd : FuncData} {p pos : Pos} {e : Expr} {es : List Expr} {t : TA} {E : XK}
/-- f(e, ..) in a def that lets f's errors out -/
theorem pe_rdyX (R : RdyX X.prog X.w X.K X.mg X.base x k ps sp f fd) (rm : Room j X.A) (hj : k ≤ j) (hg : Gl X x) (tk : Takes X (fun cls d _ H => E cls d H)) (ha : PA X (e :: es) t) (hdb : (x == ("__debug__" : Str)) = false := by decide)
    (he : starEach (e :: es) X.env = (false, eval e X.env) :: starEach es X.env := by rfl) (hpl : (backTo pos (starEach es X.env)).any (·.1) = false := by rfl) :
    PE X (.Call (.Name x p) (e :: es) [] pos) (tCall sp [] E t) := pe_call R.ok (rm.mono hj) hg R.gl R.kp R.bd .nil (passes_call tk fun _ _ _ _ h => h) ha hdb he hpl
end
end Spk
namespace Spk
open PySem PySem.Spec PyProof.Rows L2
def isMom : PyData → Bool
  | .int i => decide (-10000000000000000000000000000000 < i) && decide (i < 10000000000000000000000000000000)
  | _ => false
theorem isMom_not {d : PyData} (h : ¬ isNum d = true) : isMom d = false := by
  cases d with
  | int _ => exact absurd rfl h
  | _ => rfl
def isEnds : PyData → Bool
  | .str x => x == "half" || x == "shut"
  | _ => false
theorem ends_any (d : PyData) : (!([.str "half", .str "shut"] : List PyData).any fun z => PyData.eqv z d) = !isEnds d := by
  congr 1
  cases d with
  | str x =>
    show (((Str.ofString "half" : Str) == x) || (((Str.ofString "shut" : Str) == x) || false)) = ((x == Str.ofString "half") || (x == Str.ofString "shut"))
    rw [Bool.or_false, Bool.beq_comm (a := (Str.ofString "half")), Bool.beq_comm (a := (Str.ofString "shut"))]
  | _ => rfl
end Spk
namespace Spk
open PySem PySem.Spec PyProof.Rows L2
def holdsB (z : Bool) (p : Pr) (i : Int) : Bool := decide (p.1 ≤ i) && (if z then decide (i ≤ p.2) else decide (i < p.2))
theorem ends_of {K : PySem.W.Frag} {H : Hp} {w : V} {g : PyData} (h : Dp K H w g) (e : isEnds g = true) : ∃ z, w = endsV z := by
  cases h with
  | str x =>
    have e : (x == (Str.ofString "half") || x == (Str.ofString "shut")) = true := e
    rw [Bool.or_eq_true] at e
    rcases e with e | e
    · exact ⟨false, by rw [beq_iff_eq.mp e]; rfl⟩
    · exact ⟨true, by rw [beq_iff_eq.mp e]; rfl⟩
  | _ => cases e
def endsD (z : Bool) : PyData := if z then .str "shut" else .str "half"
theorem dp_ends {K : PySem.W.Frag} {H : Hp} (z : Bool) : Dp K H (endsV z) (endsD z) := by cases z <;> exact .str _
theorem ok_ends (z : Bool) : OkD (endsD z) := by cases z <;> exact ⟨by decide +kernel, by decide +kernel, by decide +kernel, by decide +kernel, by decide +kernel, by decide +kernel⟩
theorem isEnds_endsD (z : Bool) : isEnds (endsD z) = true := by cases z <;> decide +kernel
theorem kitStr (d : PyData) : kitB (tyN d) "str" = some (match d with | .str _ => true | _ => false) := by cases d <;> simp only [tyN] <;> decide +kernel
end Spk
namespace Spk
open PySem PySem.Spec PyProof.Rows L2
/-! ### calls within a try's body -/
section
variable {X : Cx} {CX' : CXT} {k j : Nat} {f : Addr} {fd : FuncData} {ps ks : List Str} {sp : Sp} {x : Str} {p pos : Pos} {kws : List Keyword} {tk : TA} {g : List Value → List Value → List Value} {gV : List V → List V → List V} {E : L2.St → XK}
/-- f(k = v, ..) without a positional argument, what it raises wished for at the slots -/
theorem pe_kw0S (F : FnOk X.prog X.w X.K X.mg X.base CX' k f fd ps sp) (rm : Room j X.A) (hj : k ≤ j) (hg : Gl X x) (hm : X.mg x = some (.ref f)) (hk : PySem.W.keepIn X.K (.ref f) = true) (hb : KBn X.K fd ps 0 ks g gV) (hx : ∀ σ, PassesAt CX' X σ (E σ)) (hkw : PK X kws tk)
    (hall : (backToKw pos (keywordEach kws X.env)).all (·.1.isSome) = true := by rfl) (hks : (backToKw pos (keywordEach kws X.env)).filterMap (·.1) = ks := by rfl) (hdb : (x == ("__debug__" : Str)) = false := by decide)
    (hpl : ((backTo pos (starEach [] X.env)).any (·.1) || (backToKw pos (keywordEach kws X.env)).any (·.1.isNone)) = false := by rfl) :
    PE X (.Call (.Name x p) [] kws pos) (fun σ H Q => tk σ H fun zs H2 => zs.length = ks.length ∧ sp (gV [] zs) H2 Q (E σ)) := by
  refine ⟨fun pins s σ H Q I h => wpAny_Call_Name_kw (ld_glob I hg hm ?_ hdb)⟩
  refine PySem.W.callWith_KW0 (h₀ := X.base) I.ok.mod.kin hk hall (thn (hkw.run pos pins s σ H _ I h) fun ws s2 hh => ?_) hpl
  obtain ⟨zs, H2, I2, rz, l2, q2⟩ := hh
  refine ⟨I2.kIn, ?_⟩
  rw [hks]
  have r2 := hb.rel (vs := []) (us := []) .nil rz
  refine wpAny_call (codeAny_mono (F.run X.A X.stack s2 H2 ⟨[], ks.zip ws⟩ (g [] ws) (gV [] zs) Q (E σ) (rm.mono hj) I2.env0 (hb.to s2 [] ws I2.kIn rfl (rz.length.symm.trans l2)) r2 q2) fun r s' hq => ?_)
  match r, hq with
  | .error e, hq => exact hx σ pins H2 s2 e s' I2 hq
  | .ok (.ret u), hq => exact I2.after hq
/-- repr, the room told by its units (within an except suite too) -/
theorem call_reprU (gd : X.A.guards = some []) (hu0 : X.A.units + 66 < cLine) : CallR X (.builtin "repr") (rRepr X.K) := by
  intro pins s σ J xs us R I r h
  obtain ⟨y, d, rfl, dp, hs, hnd, hdep, hz, q⟩ := h
  have hu : X.A.units + (d.depth + 1) < cLine := by omega
  obtain ⟨u, rfl, ru⟩ := vals1 r
  obtain ⟨as, rd⟩ := Dp.reads I d y u dp ru
  have fin : ∀ h' tk, (∀ b o, s.heap.get? b = some o → h'.get? b = some o) → ∀ t, EP X pins σ R (.str d.shown t) { s with heap := h', toks := tk } := fun h' tk hk t =>
    ⟨.str d.shown, J, I.kept (t' := tk) hk, ⟨t, rfl⟩, q⟩
  have here := fin s.heap (s.toks + 1) (fun _ _ z => z) s.toks
  cases dp with
  | non =>
    obtain rfl : u = Value.none := ru
    exact PySem.P.repr_of_none (by simpa only [PyData.shown_none] using here)
  | bl b =>
    obtain rfl : u = Value.bool b := ru
    refine PySem.P.repr_of_bool ?_
    simp only [PyData.shown_bool] at here
    cases b <;> exact here
  | int i =>
    obtain ⟨t, rfl⟩ := ru
    exact PySem.P.repr_of_int (by simpa [PyData.showable] using hs) (by simpa only [PyData.shown_int] using here)
  | str z =>
    obtain ⟨t, rfl⟩ := ru
    exact PySem.P.repr_of_str (by simpa only [PyData.shown_str] using here) (by simpa only [PyData.shown_str] using hz)
  | lst sq da =>
    obtain rfl := (show u = Value.ref _ from ru)
    exact repr_of_reads' rd hs (fun z => absurd z (by rw [hnd]; decide)) gd hu (fun _ _ z => z) (fun h' t tk hk => fin h' tk hk t) hz
  | tup sq da =>
    obtain rfl := (show u = Value.ref _ from ru)
    exact repr_of_reads' rd hs (fun z => absurd z (by rw [hnd]; decide)) gd hu (fun _ _ z => z) (fun h' t tk hk => fin h' tk hk t) hz
end
end Spk

namespace Spk
open PySem PySem.Spec PyProof.Rows L2
section
variable {K : PySem.W.Frag}
theorem kit_mk {t : Value} {C : Addr} {b : Bool} (h2 : PySem.W.isClsIn K C = true) (h3 : PySem.W.typeIn K (.ref C) = some (.type "type")) (h4 : PySem.W.subIn K t (.ref C) = some b) : PySem.W.kitCls K t (.ref C) = some b := by
  have e2 : ((PySem.W.clsIn K C).isSome && PySem.W.typeIn K (.ref C) == some (.type "type")) = true := by
    have h2' : (PySem.W.clsIn K C).isSome = true := h2
    rw [h2', h3] <;> rfl
  show (if ((PySem.W.clsIn K C).isSome && PySem.W.typeIn K (.ref C) == some (.type "type")) = true then PySem.W.subIn K t (.ref C) else none) = some b
  rw [if_pos e2]
  exact h4
/-- does an error of the class t meet the clause of the class C -/
theorem exm_mk {t : Value} {C : Addr} {b : Bool} (h1 : PySem.W.subIn K (.ref C) (.type "BaseException") = some true) (h2 : PySem.W.isClsIn K C = true) (h3 : PySem.W.typeIn K (.ref C) = some (.type "type")) (h4 : PySem.W.subIn K t (.ref C) = some b) :
    PySem.W.exmOne K t (.ref C) = some b := by
  have e1 : (PySem.W.subIn K (.ref C) (.type "BaseException") == some true) = true := by rw [h1] <;> rfl
  show (if (PySem.W.subIn K (.ref C) (.type "BaseException") == some true) = true then PySem.W.kitCls K t (.ref C) else none) = some b
  rw [if_pos e1]
  exact kit_mk h2 h3 h4
/-- isinstance by a built-in class -/
theorem kit_bin {C : Addr} {T : String} {b : Bool} (hm : PySem.W.kitMeta T = true) (h : PySem.W.subIn K (.ref C) (.type T) = some b) : PySem.W.kitOne K (.ref C) (.type T) = some b := by
  have e : (Value.ref C == Value.type T) = false := rfl
  show (if (Value.ref C == Value.type T) = true then some true else (if PySem.W.kitMeta T = true then PySem.W.subIn K (.ref C) (.type T) else none)) = some b
  rw [e, if_neg Bool.false_ne_true, if_pos hm]
  exact h
/-- isinstance by another own class: no -/
theorem kit_not {C D : Addr} (h2 : PySem.W.isClsIn K D = true) (h3 : PySem.W.typeIn K (.ref D) = some (.type "type")) (hs : PySem.W.subIn K (.ref D) (.ref D) = some true) (h4 : PySem.W.subIn K (.ref C) (.ref D) = some false) : PySem.W.kitOne K (.ref C) (.ref D) = some false := by
  have ne : C ≠ D := fun z => by rw [z, hs] at h4; cases h4
  have e : (Value.ref C == Value.ref D) = false := by
    cases q : (Value.ref C == Value.ref D) with
    | false => rfl
    | true => exact absurd (by have := beq_iff_eq.mp q; injection this) ne
  show (if (Value.ref C == Value.ref D) = true then some true else PySem.W.kitCls K (.ref C) (.ref D)) = some false
  rw [e, if_neg Bool.false_ne_true]
  exact kit_mk h2 h3 h4
/-- what the top must have left of an own error class over ValueError -/
structure ErrF (K : PySem.W.Frag) (C : Addr) (f : Str) : Prop where
  cls : ∃ nm q N bs bm sn sub ab col dd k0 k1 k2 k3 k5, K.lookup C = some (excClassObj nm q C N bs bm true sn sub ab col dd k0 k1 k2 k3 k5 "ValueError.__new__") ∧ PySem.HandSPX.refsVE bm = true
  sa : PySem.W.findIn K (.ref C) "__setattr__" = some (some (.builtin "object.__setattr__"))
  ga : PySem.W.findIn K (.ref C) "__getattribute__" = some (some (.builtin "BaseException.__getattribute__"))
  gg : PySem.W.findIn K (.ref C) "__getattr__" = some none
  nf : PySem.W.findIn K (.ref C) f = some none
  kC : PySem.W.keepIn K (.ref C) = true
  eC : PySem.W.subIn K (.ref C) (.type "BaseException") = some true
  tC : PySem.W.typeIn K (.ref C) = some (.type "type")
  hC : PySem.W.hasDictIn K C = true
  iC : PySem.W.isClsIn K C = true
  sC : PySem.W.subIn K (.ref C) (.ref C) = some true
theorem ErrF.xf {C : Addr} {f : Str} (h : ErrF K C f) : XfC K C := ⟨h.ga, h.gg, h.eC, h.hC⟩
theorem ErrF.oex {C : Addr} {f : Str} (h : ErrF K C f) : OexC K C := ⟨h.cls, h.sa, h.eC, h.tC, h.kC⟩
theorem ErrF.exm {C : Addr} {f : Str} {t : Value} {b : Bool} (h : ErrF K C f) (s : PySem.W.subIn K t (.ref C) = some b) : PySem.W.exmOne K t (.ref C) = some b := exm_mk h.eC h.iC h.tC s
theorem ErrF.not {C D : Addr} {f : Str} (h : ErrF K D f) (s : PySem.W.subIn K (.ref C) (.ref D) = some false) : PySem.W.kitOne K (.ref C) (.ref D) = some false := kit_not h.iC h.tC h.sC s
theorem ErrF.excC {C : Addr} {f : Str} (h : ErrF K C f) (ha : PySem.W.findIn K (.ref C) "__class__" = some (some (.builtin "object.__class__"))) (hn : PySem.W.specialIn K (.builtin "object.__class__") "__get__" = some (some (.builtin "getset_descriptor.__get__")))
    (ht : PySem.W.takesIn K (.builtin "object.__class__") = some true) (hm : PySem.W.mroIn K C (.type "object") = some true) : ExcC K C := ⟨h.ga, h.gg, h.eC, h.hC, ha, hn, ht, hm⟩
theorem ErrF.errT {P : Program} {w : World} {mg : Str → Option Value} {bh : Heap} {x f qu : Str} {C fI : Addr} {fd : FuncData} {st : Stmt} {q1 q2 q3 q4 : Pos} (h : ErrF K C f) (gC : mg x = some (.ref C))
    (iC : PySem.W.findIn K (.ref C) "__init__" = some (some (.ref fI))) (tI : PySem.W.typeIn K (.ref fI) = some (.type "function")) (F : Fun K "__init__" qu st fI fd) (bd : Binds K fd ["self", f] [])
    (S : FnScope ["self", f] ["self", f] (defScope st)) (hb : defBody st = [.Assign [.Attribute (.Name "self" q1) f q2] (.Name f q3) q4]) (hf1 : (f == ("__debug__" : Str)) = false) (hf2 : (f == ("__classdict__" : Str)) = false)
    (v0 : (defScope st).names.lookup ("self" : Str) = some .local) (v1 : (defScope st).names.lookup f = some .local) : ErrT P w K mg bh x f C fI fd :=
  ⟨h.oex, h.xf, h.nf, iC, tI, gC, ok_init F S h.oex h.nf hb hf1 hf2 v0 v1, bd, h.exm h.sC⟩
end
end Spk

namespace Spk
open PySem PySem.Spec PyProof.Rows L2
/-! ### small objects, lists of them -/
structure Sm (d : PyData) : Prop where
  sh : d.showable = true
  nd : d.hasDict = false
  dp : d.depth ≤ 6
  lf : d.leavesShort 60 = true
  bk : d.bulk ≤ 50
  ok : PyData.canLay0 d = true
theorem Sm.len {d : PyData} (h : Sm d) : d.shown.length ≤ sizeLine := by
  have := PyData.shown_le_bulk 60 (by decide) d h.lf
  have := h.bk
  rw [sizeLine_eq]; omega
theorem Sm.okD {d : PyData} (h : Sm d) (st : PyData.canLay0 (.str d.shown) = true) : OkD d := ⟨h.sh, h.nd, Nat.le_trans h.dp (by decide), h.len, h.ok, st⟩
theorem int_short {i : Int} (h : i.natAbs < 10 ^ 45) : (PyData.shown (.int i)).length ≤ 60 := by
  rw [PyData.shown_int, PySem.ofString_length]
  have := int_text_length_le10 (k := 45) (by decide) h
  omega
theorem sm_int {i : Int} (h1 : -1000000000000000000000000000000000000000000000 < i) (h2 : i < 1000000000000000000000000000000000000000000000) : Sm (.int i) where
  sh := by
    have : i.natAbs.log2 < 1920 := log_of (by omega) (by omega)
    simpa [PyData.showable] using this
  nd := rfl
  dp := Nat.zero_le _
  lf := by
    have := int_short (i := i) (by omega)
    simpa [PyData.leavesShort] using this
  bk := Nat.zero_le _
  ok := rfl
structure SmAll (ds : List PyData) (n b : Nat) : Prop where
  sh : PyData.showableAll ds = true
  nd : PyData.hasDictAll ds = false
  dp : PyData.depthAll ds ≤ n
  lf : PyData.leavesShortAll 60 ds = true
  bk : PyData.bulkAll ds ≤ b
  ok : PyData.canLayAll0 ds = true
theorem smA_nil {n : Nat} : SmAll [] n 0 := ⟨rfl, rfl, Nat.zero_le _, rfl, Nat.le_refl _, rfl⟩
theorem smA_cons {d : PyData} {ds : List PyData} {n b k : Nat} (h : Sm d) (hd : d.depth ≤ n) (hb : d.bulk ≤ k) (t : SmAll ds n b) : SmAll (d :: ds) n (k + 1 + b) where
  sh := by simp only [PyData.showableAll, h.sh, t.sh]; rfl
  nd := by simp only [PyData.hasDictAll, h.nd, t.nd]; rfl
  dp := by simp only [PyData.depthAll]; exact Nat.max_le.mpr ⟨hd, t.dp⟩
  lf := by simp only [PyData.leavesShortAll, h.lf, t.lf]; rfl
  bk := by simp only [PyData.bulkAll]; have := t.bk; omega
  ok := by simp only [PyData.canLayAll0, h.ok, t.ok]; rfl
theorem sm_tup {ds : List PyData} {n b : Nat} (t : SmAll ds n b) (hn : n ≤ 5) (hb : b ≤ 50) : Sm (.tuple ds) where
  sh := by simp only [PyData.showable]; exact t.sh
  nd := by simp only [PyData.hasDict]; exact t.nd
  dp := by simp only [PyData.depth]; have := t.dp; omega
  lf := by simp only [PyData.leavesShort]; exact t.lf
  bk := by simp only [PyData.bulk]; have := t.bk; omega
  ok := by simp only [PyData.canLay0]; exact t.ok
theorem sm_lst {ds : List PyData} {n b : Nat} (t : SmAll ds n b) (hn : n ≤ 5) (hb : b ≤ 50) : Sm (.list ds) where
  sh := by simp only [PyData.showable]; exact t.sh
  nd := by simp only [PyData.hasDict]; exact t.nd
  dp := by simp only [PyData.depth]; have := t.dp; omega
  lf := by simp only [PyData.leavesShort]; exact t.lf
  bk := by simp only [PyData.bulk]; have := t.bk; omega
  ok := by simp only [PyData.canLay0]; exact t.ok
/-- a list of small objects may be shown -/
theorem smA_of {ds : List PyData} (h : ∀ d ∈ ds, Sm d) : SmAll ds 6 (51 * ds.length) := by
  induction ds with
  | nil => exact smA_nil
  | cons d ds ih =>
    have h1 := h d List.mem_cons_self
    have := smA_cons h1 h1.dp h1.bk (ih fun x hx => h x (List.mem_cons_of_mem _ hx))
    refine ⟨this.sh, this.nd, this.dp, this.lf, ?_, this.ok⟩
    have := this.bk
    rw [List.length_cons]; omega
theorem rows_len {ds : List PyData} (h : ∀ d ∈ ds, Sm d) (hl : ds.length ≤ 3000) : (PyData.list ds).showable = true ∧ (PyData.list ds).hasDict = false ∧ (PyData.list ds).depth ≤ 64 ∧ (PyData.list ds).shown.length ≤ sizeLine := by
  have t := smA_of h
  refine ⟨by simp only [PyData.showable]; exact t.sh, by simp only [PyData.hasDict]; exact t.nd, by simp only [PyData.depth]; have := t.dp; omega, ?_⟩
  have := PyData.shown_le_bulk 60 (by decide) (.list ds) (by simp only [PyData.leavesShort]; exact t.lf)
  have h2 := t.bk
  have e : (PyData.list ds).bulk = PyData.bulkAll ds := rfl
  rw [e] at this
  rw [sizeLine_eq]; omega
theorem Sm.shaped {d : PyData} (h : Sm d) : SeqAt.shaped d = true := by
  unfold SeqAt.shaped
  rw [h.ok, decide_eq_true (Nat.le_trans h.dp (by decide))]; rfl
end Spk

namespace Spk
open PySem PySem.Spec PyProof.Rows L2
/-- a def that wants no repr under way, ready to be called -/
structure RdyG (P : Program) (w : World) (K : PySem.W.Frag) (mg : Str → Option Value) (bh : Heap) (x : Str) (k : Nat) (ps : List Str) (sp : Sp) (f : Addr) (fd : FuncData) : Prop where
  ok : FnG P w K mg bh k f fd ps sp
  gl : mg x = some (.ref f)
  kp : PySem.W.keepIn K (.ref f) = true
  bd : Binds K fd ps []
section
variable {X : Cx} {x : Str} {k j : Nat} {ps : List Str} {sp : Sp} {f : Addr} {fd : FuncData} {p pos : Pos} {e : Expr} {es : List Expr} {t : TA}
theorem pe_rdyG (R : RdyG X.prog X.w X.K X.mg X.base x k ps sp f fd) (gd : X.A.guards = some []) (rm : Room j X.A) (hj : k ≤ j) (hg : Gl X x) (ha : PA X (e :: es) t) (hdb : (x == ("__debug__" : Str)) = false := by decide)
    (he : starEach (e :: es) X.env = (false, eval e X.env) :: starEach es X.env := by rfl) (hpl : (backTo pos (starEach es X.env)).any (·.1) = false := by rfl) :
    PE X (.Call (.Name x p) (e :: es) [] pos) (tCall sp [] E0 t) := pe_callG R.ok gd (rm.mono hj) hg R.gl R.kp R.bd .nil ha hdb he hpl
end
/-- tuple(xs), the written part named (within a comprehension) -/
theorem call_tuple_ofK {X : Cx} {K : PySem.W.Frag} (h : X.K = K := by rfl) : CallR X (.type "tuple") (fun xs H Q => ∃ p ys, xs = [V.ref p] ∧ ((SqL K H p ys ∧ ∀ l, H l = none → Q (.ref l) (upd H l (.tup ys))) ∨ (SqT K H p ys ∧ Q (.ref p) H))) := h ▸ call_tuple_of
end Spk
namespace Spk
open PySem PySem.Spec PyProof.Rows L2
/-! ### lists of ints as data -/
theorem dpIs {K : PySem.W.Frag} {H : Hp} : ∀ ns : List Int, DpAll K H (ns.map V.int) (ns.map PyData.int)
  | [] => .nil
  | n :: ns => .cons (.int n) (dpIs ns)
theorem canLayIs : ∀ ns : List Int, PyData.canLayAll0 (ns.map PyData.int) = true
  | [] => rfl
  | n :: ns => by
    show (PyData.canLay0 (.int n) && PyData.canLayAll0 (ns.map PyData.int)) = true
    rw [canLayIs ns]; rfl
theorem depthIs : ∀ ns : List Int, PyData.depthAll (ns.map PyData.int) ≤ 1
  | [] => Nat.zero_le _
  | n :: ns => by
    have := depthIs ns
    show max (PyData.depth (.int n)) (PyData.depthAll (ns.map PyData.int)) ≤ 1
    exact Nat.max_le.mpr ⟨by simp [PyData.depth], this⟩
theorem shapedIs (ns : List Int) : SeqAt.shaped (.list (ns.map PyData.int)) = true := by
  have h1 : PyData.canLay0 (.list (ns.map PyData.int)) = true := canLayIs ns
  have h2 : PyData.depth (.list (ns.map PyData.int)) ≤ 64 := by
    have := depthIs ns
    simp only [PyData.depth]; omega
  unfold SeqAt.shaped
  rw [h1, decide_eq_true h2]; rfl
theorem eqvIs : ∀ ns : List Int, PyData.eqvAll (ns.map PyData.int) (ns.map PyData.int) = true
  | [] => rfl
  | n :: ns => by
    show (PyData.eqv (.int n) (.int n) && PyData.eqvAll (ns.map PyData.int) (ns.map PyData.int)) = true
    rw [eqvIs ns]
    show ((n == n) && true) = true
    simp
theorem eqv_is (ns : List Int) : (!PyData.eqv (.list (ns.map PyData.int)) (.list (ns.map PyData.int))) = false := by
  rw [show PyData.eqv (.list (ns.map PyData.int)) (.list (ns.map PyData.int)) = true from eqvIs ns]; rfl
/-- what a Moments wants, within the window or not -/
def wntI (wi z : Bool) (t : Nat) (ps : List Pr) (w : Pr) (m : Int) : Int := if wi then wtdT t z ps m * hldN z [w] m else wtdT t z ps m
end Spk
namespace Spk
open PySem PySem.Spec PyProof.Rows L2
theorem atI_end {α : Type} {xs : List α} (h : xs ≠ []) : ∃ v, v ∈ xs ∧ atI xs (-1) = some v := by
  refine ⟨xs.getLast h, List.getLast_mem h, ?_⟩
  have e := atI_last xs.dropLast (xs.getLast h)
  rw [List.dropLast_concat_getLast h] at e
  exact e
theorem atI_endI {ms : List Int} (h : ms ≠ []) : ∃ m, m ∈ ms ∧ atI (ms.map V.int) (-1) = some (.int m) := by
  obtain ⟨v, hv, e⟩ := atI_end (xs := ms.map V.int) (fun z => h (List.map_eq_nil_iff.mp z))
  obtain ⟨m, hm, rfl⟩ := List.mem_map.mp hv
  exact ⟨m, hm, e⟩
theorem mem_fm {j : Nat} {x : V} (h : ([.str "one", .str "full", .str "any"] : List V)[j]? = some x) : ∃ fm : Str, x = .str fm ∧ inV (.str fm) WFm = true ∧ decide (V.str fm = .str "cut") = false := by
  match j, h with
  | 0, h => exact ⟨_, (Option.some.inj h).symm, by decide +kernel, by decide +kernel⟩
  | 1, h => exact ⟨_, (Option.some.inj h).symm, by decide +kernel, by decide +kernel⟩
  | 2, h => exact ⟨_, (Option.some.inj h).symm, by decide +kernel, by decide +kernel⟩
theorem wnt_due {wi z : Bool} {t : Nat} {ps : List Pr} {w : Pr} {m : Int} : wntI wi z t ps w m = if (wi && !hldB z w m) = true then 0 else wtdT t z ps m := by
  unfold wntI
  rw [hld1]
  cases wi <;> cases hldB z w m <;> simp
theorem wtd_nil {t : Nat} (h : t < 6) (z : Bool) (m : Int) : wtdT t z [] m = if inV (wndV t) [.str "none", .str "all"] = true then 1 else 0 := by
  show wndB t 0 0 = _
  match t, h with
  | 0, _ => decide +kernel
  | 1, _ => decide +kernel
  | 2, _ => decide +kernel
  | 3, _ => decide +kernel
  | 4, _ => decide +kernel
  | 5, _ => decide +kernel
theorem wnt_nil {t : Nat} (h : t < 6) (wi z : Bool) (w : Pr) (m : Int) : wntI wi z t [] w m = if (inV (wndV t) [.str "none", .str "all"] && (!wi || hldB z w m)) = true then 1 else 0 := by
  rw [wnt_due, wtd_nil h]
  cases wi <;> cases hldB z w m <;> cases inV (wndV t) [.str "none", .str "all"] <;> rfl
end Spk

namespace Spk
open PySem PySem.Spec PyProof.Rows L2
/-! ### a staticmethod read off its class, called -/
/-- C.m is a staticmethod: its record at p, its def at g -/
structure SMet (K : PySem.W.Frag) (C : Addr) (mc : Value) (m : Str) (p g : Addr) : Prop where
  at_ : PySem.W.findCls K (.ref C) mc m = some (.get (.builtin "staticmethod.__get__") (.ref p) .none (.ref C))
  rc : ∃ rest, PySem.W.recIn K p "staticmethod" = some (.ref g :: rest)
  kp : PySem.W.keepIn K (.ref g) = true
section
variable {X : Cx} {pins : List (Addr × Obj)} {σ : L2.St} {H : Hp} {s : Shared} {C p g : Addr} {mc : Value} {m : Str} {A : Around} {E : Value → Shared → Prop}
theorem getmethsm_ok {pl : Sem Bool} {Q : Value × List Value → Shared → Prop} (I : Inv X pins σ H s) (r : ClX.CRead X.K C mc) (k : SMet X.K C mc m p g)
    (h : ∀ s', Inv X pins σ H s' → Q (.ref g, []) s') : wpAny (model X.prog X.w) A (getMethod (.ref C) m pl) Q E s := by
  obtain ⟨rest, hp⟩ := k.rc
  refine PySem.W.method_cls I.kIn r.ga (PySem.W.cls_bind I.kIn r.rd k.at_ ?_)
  exact wpAny_call (PySem.W.sm_get (s := { s with toks := s.toks + 1 }) I.kIn hp (PySem.W.handed_on rfl (h _ (I.tok _))))
end
/-- e.m(..), e the class at C, m a staticmethod -/
def tSMeth (C : Addr) (sp : Sp) (E : XK) (ta : TE) (t : TA) : TE := fun σ H Q => ta σ H fun x H1 => x = .ref C ∧ t σ H1 fun vs H2 => sp vs H2 Q E
section
variable {X : Cx} {CX : CXT} {k : Nat} {C p g : Addr} {mc : Value} {sp : Sp} {E : XK} {o e : Expr} {es : List Expr} {m : Str} {pos apos : Pos} {ta : TE} {t : TA} {pl : Sem Bool}
theorem pe_smeth (he : PE X o ta) (r : ClX.CRead X.K C mc) (c : SMet X.K C mc m p g) (F : FnR X.prog X.w X.K X.mg X.base CX k g sp) (hr : Room k X.A) (hx : Passes CX X E) (ha : PA X (e :: es) t)
    (hst : starEach (e :: es) X.env = (false, eval e X.env) :: starEach es X.env := by rfl) (hpl : (backTo pos (starEach es X.env)).any (·.1) = false := by rfl)
    (ht : eval (.Call (.Attribute o m apos) (e :: es) [] pos) X.env = (do
      let ov ← eval o X.env
      standAt apos.atName
      let (f, first) ← holding [ov] (getMethod ov m pl)
      callWith pos f first (backTo pos (starEach (e :: es) X.env)) (backToKw pos (keywordEach [] X.env))) := by rfl) :
    PE X (.Call (.Attribute o m apos) (e :: es) [] pos) (tSMeth C sp E ta t) := by
  refine ⟨fun pins s σ H Q I h => ?_⟩
  refine PySem.W.methodCall_KW (pl := pl) (thn (he.run pins s σ H _ I h) fun u s1 ⟨x, H1, I1, rx, ex, q⟩ => ?_) ht
  subst ex
  obtain rfl : u = Value.ref C := rx
  refine getmethsm_ok I1 r c fun s2 I2 => ?_
  refine PySem.W.callWith_K (first := []) (h₀ := X.base) I.ok.mod.kin c.kp (thn (ha.run pos pins s2 σ H1 _ I2 q) fun us s3 ⟨vs, H2, I3, rv, q2⟩ => ⟨I3.kIn, ?_⟩) hst hpl
  exact wpAny_call (run_fnR F hr hx I3 rv q2)
end
/-! ### C( *e), C's __init__ by a positional promise -/
def tMakeS (K : PySem.W.Frag) (C : Addr) (sp : Sp) (E : XK) (te : TE) : TE := fun σ H Q => te σ H fun y H1 => ∃ a xs, y = V.ref a ∧ (SqT K H1 a xs ∨ SqL K H1 a xs) ∧ ∀ x dx, H1 x = Option.none → H1 dx = Option.none → dx ≠ x →
  sp (V.ref x :: xs) (upd (upd H1 dx (.own x)) x (.ins C dx [])) (fun v H2 => v = .non ∧ Q (.ref x) H2) E
section
variable {X : Cx} {CX : CXT} {k : Nat} {f C : Addr} {sp : Sp} {E : XK} {x : Str} {e : Expr} {te : TE} {p pos sp_ : Pos}
theorem pe_makeS (M : Mk X.K C f) (F : FnR X.prog X.w X.K X.mg X.base CX k f sp) (hr : Room (k + 1) X.A) (hg : Gl X x) (hm : X.mg x = some (.ref C)) (hx : Passes CX X E) (he : PE X e te) (hd : (x == ("__debug__" : Str)) = false := by decide)
    (hst : starEach [.Starred e sp_] X.env = [(true, eval e X.env)] := by rfl) : PE X (.Call (.Name x p) [.Starred e sp_] [] pos) (tMakeS X.K C sp E te) := by
  refine ⟨fun pins s σ H Q I h => ?_⟩
  refine wpAny_Call_Name_kw (ld_glob I hg hm ?_ hd)
  refine PySem.W.callWith_S (h₀ := X.base) I.ok.mod.kin M.kp (thn (he.run pins s σ H _ I h) fun v s1 ⟨y, H1, I1, ry, a, xs, ey, hxs, q⟩ => ?_) hst
  subst ey
  obtain rfl : v = Value.ref a := ry
  exact StX.star_any I1 hxs fun us s2 I2 rv => ⟨I2.kIn, StX.run_makeR M F hr hx I2 rv q⟩
end
/-! ### such defs ready to be used -/
/-- a staticmethod -/
structure RdyS (P : Program) (w : World) (K : PySem.W.Frag) (mg : Str → Option Value) (bh : Heap) (x : Str) (C : Addr) (m : Str) (k : Nat) (sp : Sp) (g : Addr) : Prop where
  ok : FnR P w K mg bh CX0 k g sp
  gl : mg x = some (.ref C)
  rd : ∃ mc p, ClX.CRead K C mc ∧ SMet K C mc m p g
/-- a class made of given values, without defaults -/
structure RdyMp (P : Program) (w : World) (K : PySem.W.Frag) (mg : Str → Option Value) (bh : Heap) (x : Str) (C : Addr) (k : Nat) (ps : List Str) (sp : Sp) (f : Addr) (fd : FuncData) : Prop where
  ok : FnOk P w K mg bh CX0 k f fd ps sp
  mkr : Mk K C f
  gl : mg x = some (.ref C)
  bd : Binds K fd ps []
/-- a class made of any number of values -/
structure RdyMs (P : Program) (w : World) (K : PySem.W.Frag) (mg : Str → Option Value) (bh : Heap) (x : Str) (C : Addr) (k : Nat) (sp : Sp) (f : Addr) : Prop where
  ok : FnR P w K mg bh CX0 k f sp
  mkr : Mk K C f
  gl : mg x = some (.ref C)
/-- a method that may raise, without defaults -/
structure RdyMx (P : Program) (w : World) (K : PySem.W.Frag) (mg : Str → Option Value) (bh : Heap) (C : Addr) (m : Str) (k : Nat) (ps : List Str) (sp : Sp) (f : Addr) (fd : FuncData) : Prop where
  ok : FnOk P w K mg bh (L2.CX P w) k f fd ps sp
  mt : Meth K C m f
  bd : Binds K fd ps []
section
variable {X : Cx} {k j : Nat} {C f : Addr} {fd : FuncData} {ps : List Str} {sp : Sp} {x m : Str} {e : Expr} {es : List Expr} {te : TE} {t : TA} {p pos apos sp_ : Pos}
theorem pe_rdyS {pl : Sem Bool} (R : RdyS X.prog X.w X.K X.mg X.base x C m k sp f) (rm : Room j X.A) (hj : k ≤ j) (hg : Gl X x) (ha : PA X (e :: es) t)
    (hst : starEach (e :: es) X.env = (false, eval e X.env) :: starEach es X.env := by rfl) (hpl : (backTo pos (starEach es X.env)).any (·.1) = false := by rfl)
    (ht : eval (.Call (.Attribute (.Name x p) m apos) (e :: es) [] pos) X.env = (do
      let ov ← eval (.Name x p) X.env
      standAt apos.atName
      let (f, first) ← holding [ov] (getMethod ov m pl)
      callWith pos f first (backTo pos (starEach (e :: es) X.env)) (backToKw pos (keywordEach [] X.env))) := by rfl)
    (hdb : (x == ("__debug__" : Str)) = false := by decide) : PE X (.Call (.Attribute (.Name x p) m apos) (e :: es) [] pos) (fun σ H Q => t σ H fun vs H2 => sp vs H2 Q E0) := by
  obtain ⟨mc, q, r, c⟩ := R.rd
  have z := pe_smeth (E := E0) (pl := pl) (pe_glob (v := .ref C) (pos := p) hg R.gl rfl hdb) r c R.ok (rm.mono hj) pass0 ha hst hpl ht
  exact ⟨fun pins s σ H Q I h => z.run pins s σ H Q I ⟨rfl, h⟩⟩
theorem pe_rdyMp (R : RdyMp X.prog X.w X.K X.mg X.base x C k ps sp f fd) (rm : Room j X.A) (hj : k + 1 ≤ j) (hg : Gl X x) (ha : PA X (e :: es) t) (hdb : (x == ("__debug__" : Str)) = false := by decide)
    (he : starEach (e :: es) X.env = (false, eval e X.env) :: starEach es X.env := by rfl) (hpl : (backTo pos (starEach es X.env)).any (·.1) = false := by rfl) :
    PE X (.Call (.Name x p) (e :: es) [] pos) (tMake C sp [] E0 t) := pe_make R.mkr R.ok (rm.mono hj) hg R.gl R.bd .nil pass0 ha hdb he hpl
theorem pe_rdyMs (R : RdyMs X.prog X.w X.K X.mg X.base x C k sp f) (rm : Room j X.A) (hj : k + 1 ≤ j) (hg : Gl X x) (he : PE X e te) (hdb : (x == ("__debug__" : Str)) = false := by decide)
    (hst : starEach [.Starred e sp_] X.env = [(true, eval e X.env)] := by rfl) : PE X (.Call (.Name x p) [.Starred e sp_] [] pos) (tMakeS X.K C sp E0 te) := pe_makeS R.mkr R.ok (rm.mono hj) hg R.gl pass0 he hdb hst
end
end Spk

namespace Spk
open PySem PySem.Spec PyProof.Rows L2
/-! ### the least moments of a spread -/
def nextIn (us : List Pr) (m : Int) : Option Int := (us.find? fun p => decide (m < p.2)).map fun p => mx p.1 m
def nextOut (us : List Pr) (m : Int) : Option Int := match us.find? fun p => decide (p.1 ≤ m) && decide (m < p.2) with
  | none => some m
  | some p => if p.2 = 10000000000000000000000000000000 then none else some p.2
def hasB (ps : List Pr) (m : Int) : Bool := ps.any fun p => decide (p.1 ≤ m) && decide (m < p.2)
def dueF (ps : List Pr) (ms : List Int) (m : Int) (b : Bool) : Option Int := ms.find? fun n => decide (m ≤ n) && (hasB ps n == b)
def optV : Option Int → V
  | none => .non
  | some i => .int i
theorem hasB_iff {ps : List Pr} {m : Int} : hasB ps m = true ↔ ∃ p ∈ ps, p.1 ≤ m ∧ m < p.2 := by
  unfold hasB
  rw [List.any_eq_true]
  constructor
  · rintro ⟨p, hp, h⟩
    simp only [Bool.and_eq_true, decide_eq_true_eq] at h
    exact ⟨p, hp, h⟩
  · rintro ⟨p, hp, h⟩
    exact ⟨p, hp, by simp only [Bool.and_eq_true, decide_eq_true_eq]; exact h⟩
theorem hasB_cov {ps : List Pr} {m : Int} : hasB ps m = true ↔ cov false ps (2 * m) := by
  rw [hasB_iff]
  constructor
  · rintro ⟨p, hp, h1, h2⟩
    exact ⟨p, hp, by unfold covP; simp only [Bool.false_eq_true, if_false]; omega⟩
  · rintro ⟨p, hp, h⟩
    unfold covP at h
    simp only [Bool.false_eq_true, if_false] at h
    exact ⟨p, hp, by omega⟩
theorem hasB_union (ps : List Pr) (m : Int) : hasB (unionM false ps) m = hasB ps m := by
  rw [Bool.eq_iff_iff, hasB_cov, hasB_cov]
  exact cov_union false ps (2 * m)
theorem find_least {P : Int → Bool} : ∀ {ms : List Int} {n : Int}, ms.Pairwise (· ≤ ·) → n ∈ ms → P n = true → (∀ k ∈ ms, P k = true → n ≤ k) → ms.find? P = some n
  | [], _, _, h, _, _ => absurd h List.not_mem_nil
  | a :: ms, n, s, h, hp, hl => by
    obtain ⟨s1, s2⟩ := List.pairwise_cons.mp s
    rw [List.find?_cons]
    cases e : P a with
    | true =>
      have h1 := hl a List.mem_cons_self e
      rcases List.mem_cons.mp h with rfl | h
      · rfl
      · have := s1 n h
        show some a = some n
        rw [show a = n by omega]
    | false =>
      rcases List.mem_cons.mp h with rfl | h
      · rw [hp] at e; cases e
      · exact find_least s2 h hp fun k hk => hl k (List.mem_cons_of_mem _ hk)
theorem find_first {P : Pr → Bool} : ∀ {us : List Pr} {p : Pr}, (us.Pairwise fun a b => a.2 < b.1) → us.find? P = some p → ∀ u ∈ us, P u = true → u = p ∨ p.2 < u.1
  | [], _, _, e, _, _, _ => nomatch e
  | a :: us, p, s, e, u, hu, h => by
    obtain ⟨s1, s2⟩ := List.pairwise_cons.mp s
    rw [List.find?_cons] at e
    cases c : P a with
    | true =>
      rw [c] at e
      obtain rfl := Option.some.inj e
      rcases List.mem_cons.mp hu with rfl | hu
      · exact .inl rfl
      · exact .inr (s1 u hu)
    | false =>
      rw [c] at e
      rcases List.mem_cons.mp hu with rfl | hu
      · rw [h] at c; cases c
      · exact find_first s2 e u hu h
theorem strP_bds {p : Pr} (h : strP p = true) : p.1 ≤ p.2 ∧ p.1 < 10000000000000000000000000000000 ∧ -10000000000000000000000000000000 < p.2 ∧ p.2 ≤ 10000000000000000000000000000000 ∧ -10000000000000000000000000000000 ≤ p.1 := by
  unfold strP edgeI at h
  simp only [Bool.and_eq_true, Bool.or_eq_true, decide_eq_true_eq] at h
  omega
theorem union_edges {ps : List Pr} (h : ∀ p ∈ ps, strP p = true) : ∀ u ∈ unionM false ps, strP u = true ∧ (∃ p ∈ ps, p.1 = u.1) ∧ ∃ p ∈ ps, p.2 = u.2 :=
  union_keeps (G := fun u => strP u = true ∧ (∃ p ∈ ps, p.1 = u.1) ∧ ∃ p ∈ ps, p.2 = u.2) (fun c p hc hp hl => ⟨strP_ext hc.1 hp.1 hl, hc.2.1, hp.2.2⟩) fun p hp => ⟨h p hp, ⟨p, hp, rfl⟩, ⟨p, hp, rfl⟩⟩
/-- the moments among which an answer is sought: ascending, and the edges are among them -/
structure Whens (ps : List Pr) (ms : List Int) : Prop where
  up : ms.Pairwise (· ≤ ·)
  bd : ∀ n ∈ ms, -10000000000000000000000000000000 < n ∧ n < 10000000000000000000000000000000
  b1 : ∀ p ∈ ps, -10000000000000000000000000000000 < p.1 → p.1 ∈ ms
  b2 : ∀ p ∈ ps, p.2 < 10000000000000000000000000000000 → p.2 ∈ ms
theorem due_in {ps : List Pr} {ms : List Int} {m : Int} (hs : ∀ p ∈ ps, strP p = true) (w : Whens ps ms) (hm : m ∈ ms) : dueF ps ms m true = nextIn (unionM false ps) m := by
  have pw := oneF_pw (union_one false ps)
  have ue := union_edges hs
  have bm := w.bd m hm
  unfold nextIn dueF
  cases e : (unionM false ps).find? (fun p => decide (m < p.2)) with
  | none =>
    show _ = none
    refine List.find?_eq_none.mpr fun k hk c => ?_
    rw [Bool.and_eq_true, decide_eq_true_eq, beq_iff_eq, ← hasB_union, hasB_iff] at c
    obtain ⟨mk, u, hu, h1, h2⟩ := c
    exact List.find?_eq_none.mp e u hu (decide_eq_true (by omega))
  | some p =>
    have p2 : m < p.2 := by
      have := List.find?_some e
      exact of_decide_eq_true this
    have pin := List.mem_of_find?_eq_some e
    obtain ⟨sp, ⟨q, hq, e1⟩, _⟩ := ue p pin
    have sb := strP_bds sp
    show _ = some (mx p.1 m)
    have mxl : m ≤ mx p.1 m ∧ p.1 ≤ mx p.1 m ∧ (mx p.1 m = m ∨ (mx p.1 m = p.1 ∧ m < p.1)) := by unfold mx; split <;> omega
    refine find_least w.up ?_ ?_ ?_
    · rcases mxl.2.2 with h | ⟨h, l⟩
      · rw [h]; exact hm
      · rw [h, ← e1]
        exact w.b1 q hq (by omega)
    · rw [Bool.and_eq_true, decide_eq_true_eq, beq_iff_eq, ← hasB_union, hasB_iff]
      have lt : p.1 < p.2 := by
        have := oneF_full (union_one false ps) p pin
        unfold emp at this
        simp only [Bool.false_eq_true, if_false, decide_eq_false_iff_not] at this
        omega
      refine ⟨mxl.1, p, pin, mxl.2.1, ?_⟩
      rcases mxl.2.2 with h | ⟨h, l⟩ <;> omega
    · intro k hk c
      rw [Bool.and_eq_true, decide_eq_true_eq, beq_iff_eq, ← hasB_union, hasB_iff] at c
      obtain ⟨mk, u, hu, h1, h2⟩ := c
      rcases find_first pw e u hu (decide_eq_true (by omega)) with rfl | h
      · rcases mxl.2.2 with h | ⟨h, l⟩ <;> omega
      · rcases mxl.2.2 with h | ⟨h, l⟩ <;> omega
theorem due_out {ps : List Pr} {ms : List Int} {m : Int} (hs : ∀ p ∈ ps, strP p = true) (w : Whens ps ms) (hm : m ∈ ms) : dueF ps ms m false = nextOut (unionM false ps) m := by
  have pw := oneF_pw (union_one false ps)
  have ue := union_edges hs
  have bm := w.bd m hm
  have no : ∀ k, hasB ps k = false ↔ ¬ ∃ p ∈ unionM false ps, p.1 ≤ k ∧ k < p.2 := fun k => by rw [Bool.eq_false_iff, Ne, ← hasB_union, hasB_iff]
  unfold nextOut dueF
  cases e : (unionM false ps).find? (fun p => decide (p.1 ≤ m) && decide (m < p.2)) with
  | none =>
    show _ = some m
    refine find_least w.up hm ?_ ?_
    · rw [Bool.and_eq_true, decide_eq_true_eq, beq_iff_eq, no]
      refine ⟨Int.le_refl _, ?_⟩
      rintro ⟨u, hu, h1, h2⟩
      exact List.find?_eq_none.mp e u hu (by rw [Bool.and_eq_true, decide_eq_true_eq, decide_eq_true_eq]; exact ⟨h1, h2⟩)
    · intro k _ c
      rw [Bool.and_eq_true, decide_eq_true_eq] at c
      exact c.1
  | some p =>
    have pp := List.find?_some e
    rw [Bool.and_eq_true, decide_eq_true_eq, decide_eq_true_eq] at pp
    have pin := List.mem_of_find?_eq_some e
    obtain ⟨sp, _, ⟨q, hq, e2⟩⟩ := ue p pin
    have sb := strP_bds sp
    show _ = if p.2 = 10000000000000000000000000000000 then none else some p.2
    split
    · rename_i h
      refine List.find?_eq_none.mpr fun k hk c => ?_
      rw [Bool.and_eq_true, decide_eq_true_eq, beq_iff_eq, no] at c
      have := w.bd k hk
      exact c.2 ⟨p, pin, by omega, by omega⟩
    · rename_i h
      refine find_least w.up (e2 ▸ w.b2 q hq (by omega)) ?_ ?_
      · rw [Bool.and_eq_true, decide_eq_true_eq, beq_iff_eq, no]
        refine ⟨by omega, ?_⟩
        rintro ⟨u, hu, h1, h2⟩
        rcases pw_two pw pin hu with rfl | h3 | h3 <;> omega
      · intro k _ c
        rw [Bool.and_eq_true, decide_eq_true_eq, beq_iff_eq, no] at c
        by_cases h4 : p.2 ≤ k
        · exact h4
        · exact absurd ⟨p, pin, by omega, by omega⟩ c.2
theorem due_next {ps : List Pr} {ms : List Int} {m : Int} (hs : ∀ p ∈ ps, strP p = true) (w : Whens ps ms) (hm : m ∈ ms) (b : Bool) : dueF ps ms m b = if b then nextIn (unionM false ps) m else nextOut (unionM false ps) m := by
  cases b
  · exact due_out hs w hm
  · exact due_in hs w hm
end Spk
namespace Spk
open PySem PySem.Spec PyProof.Rows L2
/-! ### spans and spreads as objects -/
theorem dp_pr {K : PySem.W.Frag} {H : Hp} {t : Addr} {p : Pr} (h : H t = some (.tup [.int p.1, .int p.2])) : Dp K H (.ref t) (prD p) := .tup (SqT.hp h) (.cons (.int _) (.cons (.int _) .nil))
theorem strP_isE {p : Pr} (h : strP p = true) : isEdge (.int p.1) = true ∧ isEdge (.int p.2) = true := by
  unfold strP at h
  simp only [Bool.and_eq_true] at h
  exact ⟨h.1.1, h.1.2⟩
theorem isStr_pr (p : Pr) : isStr (prD p) = strP p := rfl
def spnFs (p : Pr) : List (Str × V) := [(("begin" : Str), .int p.1), (("end" : Str), .int p.2)]
theorem spn_begin (p : Pr) : List.lookup ("begin" : Str) (spnFs p) = some (.int p.1) := by simp [spnFs, List.lookup]
theorem spn_end (p : Pr) : List.lookup ("end" : Str) (spnFs p) = some (.int p.2) := by
  have : (("end" : Str) == ("begin" : Str)) = false := by decide +kernel
  simp [spnFs, List.lookup, this]
theorem spn_put (p : Pr) : putF "end" (.int p.2) (putF "begin" (.int p.1) []) = spnFs p := by
  have : ¬ (("begin" : Str) = ("end" : Str)) := by decide +kernel
  simp [putF, spnFs, this]
structure SpnC (K : PySem.W.Frag) (C : Addr) : Prop where
  cl : Cls K C
  nB : NoAttr K C "begin"
  nE : NoAttr K C "end"
  self : PySem.W.kitOne K (.ref C) (.ref C) = some true
  ha : PySem.W.findIn K (.ref C) "__class__" = some (some (.builtin "object.__class__"))
  hn : PySem.W.specialIn K (.builtin "object.__class__") "__get__" = some (some (.builtin "getset_descriptor.__get__"))
  ht : PySem.W.takesIn K (.builtin "object.__class__") = some true
  hm : PySem.W.mroIn K C (.type "object") = some true
theorem SpnC.ty {K : PySem.W.Frag} {C a dx : Addr} {fs : List (Str × V)} {H : Hp} (c : SpnC K C) (e : H a = some (.ins C dx fs)) : TyX K H (.ref a) (.ref C) := .base (.ins e c.cl c.ha c.hn c.ht c.hm)
structure SprC (K : PySem.W.Frag) (C : Addr) : Prop where
  cl : Cls K C
  nP : NoAttr K C "pairs"
def IsSpn (H : Hp) (C a : Addr) (p : Pr) : Prop := ∃ dx : Addr, H a = some (.ins C dx (spnFs p))
theorem IsSpn.same {H H' : Hp} {C a : Addr} {p : Pr} (h : IsSpn H C a p) (s : Same H H') : IsSpn H' C a p := by
  obtain ⟨dx, h1⟩ := h
  exact ⟨dx, s _ _ h1⟩
def Spn (H : Hp) (C : Addr) : List Addr → List Pr → Prop
  | [], [] => True
  | a :: as, p :: ps => IsSpn H C a p ∧ Spn H C as ps
  | _, _ => False
theorem Spn.len {H : Hp} {C : Addr} : ∀ {as : List Addr} {ps : List Pr}, Spn H C as ps → as.length = ps.length
  | [], [], _ => rfl
  | _ :: _, _ :: _, h => congrArg (· + 1) (Spn.len h.2)
  | [], _ :: _, h => h.elim
  | _ :: _, [], h => h.elim
theorem Spn.same {H H' : Hp} {C : Addr} (s : Same H H') : ∀ {as : List Addr} {ps : List Pr}, Spn H C as ps → Spn H' C as ps
  | [], [], _ => trivial
  | _ :: _, _ :: _, h => ⟨h.1.same s, Spn.same s h.2⟩
  | [], _ :: _, h => h.elim
  | _ :: _, [], h => h.elim
theorem Spn.get {H : Hp} {C : Addr} : ∀ {as : List Addr} {ps : List Pr}, Spn H C as ps → ∀ {i : Nat} {a : Addr}, as[i]? = some a → ∃ p, ps[i]? = some p ∧ IsSpn H C a p
  | [], [], _, _, _, e => by simp at e
  | a :: as, p :: ps, h, 0, x, e => by
    obtain rfl : a = x := by simpa using e
    exact ⟨p, rfl, h.1⟩
  | _ :: as, _ :: ps, h, i + 1, x, e => by
    obtain ⟨p, h1, h2⟩ := Spn.get h.2 (i := i) (a := x) (by simpa using e)
    exact ⟨p, by simpa using h1, h2⟩
  | [], _ :: _, h, _, _, _ => h.elim
  | _ :: _, [], h, _, _, _ => h.elim
theorem Spn.app {H : Hp} {C : Addr} : ∀ {as : List Addr} {ps : List Pr} {bs : List Addr} {qs : List Pr}, Spn H C as ps → Spn H C bs qs → Spn H C (as ++ bs) (ps ++ qs)
  | [], [], _, _, _, h => h
  | _ :: _, _ :: _, _, _, h, k => ⟨h.1, Spn.app h.2 k⟩
  | [], _ :: _, _, _, h, _ => h.elim
  | _ :: _, [], _, _, h, _ => h.elim
theorem Spn.kp {q : Addr} {H H' : Hp} {C : Addr} (e : Kp q H H') (hq : ∀ D dx fs, H q ≠ some (.ins D dx fs)) : ∀ {as : List Addr} {ps : List Pr}, Spn H C as ps → Spn H' C as ps
  | [], [], _ => trivial
  | a :: _, _ :: _, h => by
    obtain ⟨⟨dx, h1⟩, h2⟩ := h
    exact ⟨⟨dx, e _ _ (fun z => hq _ _ _ (z ▸ h1)) h1⟩, Spn.kp e hq h2⟩
  | [], _ :: _, h => h.elim
  | _ :: _, [], h => h.elim
def sprFs (t : Addr) : List (Str × V) := [(("pairs" : Str), .ref t)]
theorem spr_pairs (t : Addr) : List.lookup ("pairs" : Str) (sprFs t) = some (.ref t) := by simp [sprFs, List.lookup]
theorem spr_put (t : Addr) : putF "pairs" (.ref t) [] = sprFs t := rfl
def IsSpr (H : Hp) (C o : Addr) (us : List Pr) : Prop := ∃ (dx t : Addr) (ts : List Addr), H o = some (.ins C dx (sprFs t)) ∧ H t = some (.tup (ts.map V.ref)) ∧ Pd H ts us
theorem IsSpr.same {H H' : Hp} {C o : Addr} {us : List Pr} (h : IsSpr H C o us) (s : Same H H') : IsSpr H' C o us := by
  obtain ⟨dx, t, ts, h1, h2, h3⟩ := h
  exact ⟨dx, t, ts, s _ _ h1, s _ _ h2, h3.same s⟩
theorem find_at {α : Type} {P : α → Bool} : ∀ {l : List α} {i : Nat} {p : α}, l[i]? = some p → P p = true → (∀ q ∈ l.take i, P q = false) → l.find? P = some p
  | [], _, _, h, _, _ => by simp at h
  | a :: l, 0, p, h, hp, _ => by
    obtain rfl : a = p := by simpa using h
    rw [List.find?_cons, hp]
  | a :: l, i + 1, p, h, hp, hn => by
    rw [List.find?_cons, hn a (by simp)]
    exact find_at (i := i) (by simpa using h) hp fun q hq => hn q (by simp [hq])
theorem find_no {α : Type} {P : α → Bool} {l : List α} (h : ∀ q ∈ l, P q = false) : l.find? P = none := List.find?_eq_none.mpr fun q hq c => by rw [h q hq] at c; cases c
theorem take_step {α : Type} {R : α → Prop} {l : List α} {i : Nat} {p : α} (h : l[i]? = some p) (no : ∀ q ∈ l.take i, R q) (hp : R p) : ∀ q ∈ l.take (i + 1), R q := fun q hq => by
  rw [take_more h] at hq
  rcases List.mem_append.mp hq with hq | hq
  · exact no q hq
  · rw [List.mem_singleton.mp hq]; exact hp
theorem mom_of {K : PySem.W.Frag} {H : Hp} {v : V} {d : PyData} (dv : Dp K H v d) (h : isMom d = true) : ∃ m, d = .int m ∧ v = .int m := by
  cases dv with
  | int m => exact ⟨m, rfl, rfl⟩
  | _ => cases h
/-! ### a def with a star parameter -/
def spStar (n : Nat) (sp : Sp) : Sp := fun vs H Q E => ∃ ws rest, vs = ws ++ rest ∧ ws.length = n ∧ rest.length ≤ sizeLine ∧ ∀ p, H p = Option.none → sp (ws ++ [V.ref p]) (upd H p (.tup rest)) Q E
section
variable {P : Program} {w : World} {K : PySem.W.Frag} {mg : Str → Option Value} {bh : Heap}
theorem okStar {x qu pv : Str} {st : Stmt} {f : Addr} {fd : FuncData} {N ps : List Str} {k : Nat} {sp : Sp} (F : Fun K x qu st f fd) (S : FnScope N (ps ++ [pv]) (defScope st))
    (hb : ∀ (kV doc pm : Value) (an : Option Addr) (cdv ct : Value) (us rest : List Value), us.length = ps.length → bindArgs (PySem.W.fnOf x qu (defArgs st) (defBody st) (defScope st) .none kV doc pm an cdv ct) ⟨us ++ rest, []⟩ = (newTuple rest >>= fun t => pure (ps.zip us ++ [(pv, t)])))
    (hbody : ∀ (cdv : Value) (A : Around) (outer : List Env) (s : Shared) (H : Hp) (vs : List V) (Q : VK) (E : XK), Room k (A.deeper (envOfC qu (defScope st) s.heap.objs.size f cdv)) → sp vs H Q E →
      ∃ t, PSs (cxOf CX0 P w K mg bh N qu (defScope st) f cdv A outer s H E).nox (defBody st) t ∧ t { nx := fun _ H' => Q .non H', rt := Q } (L2.start N vs) H) : FnR P w K mg bh CX0 (k + 1) f (spStar ps.length sp) := by
  obtain ⟨oc, od, kV, doc, pm, an, cdv, ct, osl, rfl, lk, hcd⟩ := F.ex
  refine StX.fn_star lk hcd S StX.cxUp_none (hb kV doc pm an cdv ct) fun A outer s H vs Q E hr hsp => ?_
  obtain ⟨t, h, q⟩ := hbody cdv A outer s H vs Q E hr hsp
  exact ⟨t, h.nox, q⟩
end
/-! ### o.m(e, ..) where what is raised is wished for at the caller's slots -/
def tMethE (C : Addr) (m : Str) (sp : Sp) (E : L2.St → XK) (ta : TE) (t : TA) : TE := fun σ H Q => ta σ H fun x H1 => ∃ a dx fs, x = .ref a ∧ H1 a = some (.ins C dx fs) ∧ fs.lookup m = none ∧ t σ H1 fun vs H2 => sp (x :: vs) H2 Q (E σ)
section
variable {X : Cx} {k j : Nat} {C f : Addr} {fd : FuncData} {ps : List Str} {sp : Sp} {m : Str} {E : L2.St → XK} {o e : Expr} {es : List Expr} {ta : TE} {t : TA} {apos pos : Pos}
theorem pe_methE {pl : Sem Bool} (R : RdyMx X.prog X.w X.K X.mg X.base C m k ps sp f fd) (c : Cls X.K C) (rm : Room j X.A) (hj : k ≤ j) (he : PE X o ta) (hx : ∀ σ, PassesAt (L2.CX X.prog X.w) X σ (E σ)) (ha : PA X (e :: es) t)
    (hst : starEach (e :: es) X.env = (false, eval e X.env) :: starEach es X.env := by rfl) (hpl : (backTo pos (starEach es X.env)).any (·.1) = false := by rfl)
    (ht : eval (.Call (.Attribute o m apos) (e :: es) [] pos) X.env = (do
      let ov ← eval o X.env
      standAt apos.atName
      let (f, first) ← holding [ov] (getMethod ov m pl)
      callWith pos f first (backTo pos (starEach (e :: es) X.env)) (backToKw pos (keywordEach [] X.env))) := by rfl) :
    PE X (.Call (.Attribute o m apos) (e :: es) [] pos) (tMethE C m sp E ta t) := by
  refine ⟨fun pins s σ H Q I h => ?_⟩
  refine PySem.W.methodCall_KW (pl := pl) (thn (he.run pins s σ H _ I h) fun u s1 ⟨x, H1, I1, rx, a, dx, fs, ex, ea, l, q⟩ => ?_) ht
  subst ex
  obtain rfl : u = Value.ref a := rx
  refine getmeth_ok I1 ea c R.mt l ?_
  refine PySem.W.callWith_K (first := [.ref a]) (h₀ := X.base) I.ok.mod.kin R.mt.kp (thn (ha.run pos pins s1 σ H1 _ I1 q) fun us s2 ⟨vs, H2, I2, r, q2⟩ => ⟨I2.kIn, ?_⟩) hst hpl
  exact run_fnSD (us := .ref a :: us) (vs := .ref a :: vs) R.ok (rm.mono hj) R.bd .nil (hx σ) I2 (.cons rfl r) (by rw [List.append_nil]; exact q2)
end
end Spk
namespace Spk
open PySem PySem.Spec PyProof.Rows L2
/-! ### what is told of an answer -/
def optD : Option Int → PyData
  | none => .none
  | some i => .int i
theorem dp_opt {K : PySem.W.Frag} {H : Hp} (x : Option Int) : Dp K H (optV x) (optD x) := by
  cases x with
  | none => exact .non
  | some i => exact .int i
def nextB (b : Bool) (us : List Pr) (m : Int) : Option Int := if b then nextIn us m else nextOut us m
theorem isMom_iff {m : Int} : isMom (.int m) = true ↔ -10000000000000000000000000000000 < m ∧ m < 10000000000000000000000000000000 := by
  show (decide (-10000000000000000000000000000000 < m) && decide (m < 10000000000000000000000000000000)) = true ↔ _
  rw [Bool.and_eq_true, decide_eq_true_eq, decide_eq_true_eq]
theorem okD_small {i : Int} (h1 : -10000000000000000000000000000000 ≤ i) (h2 : i ≤ 10000000000000000000000000000000) : OkD (.int i) := okD_int (log_of (by omega) (by omega))
theorem nextB_ok {b : Bool} {us : List Pr} {m : Int} (hu : ∀ u ∈ us, strP u = true) (hm : isMom (.int m) = true) : OkD (optD (nextB b us m)) := by
  have bm := isMom_iff.mp hm
  cases b with
  | true =>
    show OkD (optD (nextIn us m))
    unfold nextIn
    cases e : us.find? (fun p => decide (m < p.2)) with
    | none => exact okD_none
    | some p =>
      have sb := strP_bds (hu p (List.mem_of_find?_eq_some e))
      show OkD (.int (mx p.1 m))
      have : mx p.1 m = m ∨ mx p.1 m = p.1 := by unfold mx; split <;> simp
      rcases this with h | h <;> rw [h] <;> exact okD_small (by omega) (by omega)
  | false =>
    show OkD (optD (nextOut us m))
    unfold nextOut
    cases e : us.find? (fun p => decide (p.1 ≤ m) && decide (m < p.2)) with
    | none => exact okD_small (by omega) (by omega)
    | some p =>
      have sb := strP_bds (hu p (List.mem_of_find?_eq_some e))
      show OkD (optD (if p.2 = 10000000000000000000000000000000 then none else some p.2))
      split
      · exact okD_none
      · exact okD_small (by omega) (by omega)
theorem spr_in (t : Addr) : List.lookup ("next_in" : Str) (sprFs t) = none := by
  have : (("next_in" : Str) == ("pairs" : Str)) = false := by decide +kernel
  simp [sprFs, List.lookup, this]
theorem spr_out (t : Addr) : List.lookup ("next_out" : Str) (sprFs t) = none := by
  have : (("next_out" : Str) == ("pairs" : Str)) = false := by decide +kernel
  simp [sprFs, List.lookup, this]
/-- an own error over ValueError, as a suite's isinstance asks of it -/
structure ErrV (K : PySem.W.Frag) (C : Addr) : Prop where
  xc : ExcC K C
  isV : PySem.W.kitOne K (.ref C) (.type "ValueError") = some true
end Spk

namespace Spk
open PySem PySem.Spec PyProof.Rows L2
theorem kit_self {K : PySem.W.Frag} (C : Addr) : PySem.W.kitOne K (.ref C) (.ref C) = some true := by
  have e : (Value.ref C == Value.ref C) = true := beq_iff_eq.mpr rfl
  show (if (Value.ref C == Value.ref C) = true then some true else PySem.W.kitCls K (.ref C) (.ref C)) = some true
  rw [e] <;> rfl
theorem len_sub : ∀ {l m : List Int}, l.Pairwise (· < ·) → (∀ k ∈ l, k ∈ m) → l.length ≤ m.length
  | [], _, _, _ => Nat.zero_le _
  | a :: l, m, s, h => by
    obtain ⟨s1, s2⟩ := List.pairwise_cons.mp s
    have ha := h a List.mem_cons_self
    have := len_sub (m := m.erase a) s2 fun k hk => (List.mem_erase_of_ne (by have := s1 k hk; omega)).mpr (h k (List.mem_cons_of_mem _ hk))
    rw [List.length_erase_of_mem ha] at this
    have hp : 0 < m.length := List.length_pos_of_mem ha
    rw [List.length_cons]; omega
theorem IsSpr.kp {H H' : Hp} {C o q : Addr} {us : List Pr} (h : IsSpr H C o us) (k : Kp q H H') (hq : ∃ xs, H q = some (.lst xs)) : IsSpr H' C o us := by
  obtain ⟨dx, t, ts, h1, h2, h3⟩ := h
  obtain ⟨xs, hq⟩ := hq
  refine ⟨dx, t, ts, k _ _ (fun z => ?_) h1, k _ _ (fun z => ?_) h2, h3.kp k fun ys z => by rw [hq] at z; cases z⟩
  · rw [z, hq] at h1; cases h1
  · rw [z, hq] at h2; cases h2
theorem st_app {a b : Str} (ha : PyData.canLay0 (.str a) = true) (hb : PyData.canLay0 (.str b) = true) : PyData.canLay0 (.str (a ++ b)) = true := by
  have ha : a.cps.all (· < 0x110000) = true := ha
  have hb : b.cps.all (· < 0x110000) = true := hb
  show (a ++ b).cps.all (· < 0x110000) = true
  rw [Str.cps_append, Array.all_append, ha, hb]; rfl
theorem join_one (x : Str) : Str.join ", " [x] = x := rfl
theorem okD_lst1 {e : Int} (h1 : -10000000000000000000000000000000 ≤ e) (h2 : e ≤ 10000000000000000000000000000000) : OkD (.list [.int e]) :=
  (sm_lst (smA_cons (sm_int (i := e) (by omega) (by omega)) (Nat.le_refl 0) (Nat.le_refl 0) (smA_nil (n := 0))) (by decide) (by decide)).okD (by
    rw [PyData.shown_list, PyData.shownAll_cons, PyData.shownAll_nil, join_one]
    exact st_app (st_app (by decide +kernel) (okD_small h1 h2).st) (by decide +kernel))
theorem okD_tup1 {e : Int} (h1 : -10000000000000000000000000000000 ≤ e) (h2 : e ≤ 10000000000000000000000000000000) : OkD (.tuple [.int e]) :=
  (sm_tup (smA_cons (sm_int (i := e) (by omega) (by omega)) (Nat.le_refl 0) (Nat.le_refl 0) (smA_nil (n := 0))) (by decide) (by decide)).okD (by
    rw [PyData.shown_tuple, PyData.shownAll_cons, PyData.shownAll_nil, join_one]
    exact st_app (st_app (by decide +kernel) (okD_small h1 h2).st) (by show PyData.canLay0 (.str ",)") = true; decide +kernel))
theorem okD_zero : OkD (.str "0") := ⟨by decide +kernel, by decide +kernel, by decide +kernel, by decide +kernel, by decide +kernel, by decide +kernel⟩
theorem shpP {x y : Str} (hx : PyData.canLay0 (.str x) = true) (hy : PyData.canLay0 (.str y) = true) : SeqAt.shaped (.tuple [.str x, .str y]) = true := by
  have : PyData.canLay0 (.tuple [.str x, .str y]) = true := by
    show (PyData.canLay0 (.str x) && (PyData.canLay0 (.str y) && true)) = true
    rw [hx, hy]; rfl
  unfold SeqAt.shaped
  rw [this, decide_eq_true (by simp [PyData.depth, PyData.depthAll])]
  rfl
theorem eqv_strs (x y : Str) : (!PyData.eqv (.tuple [.str x, .str y]) (.tuple [.str x, .str y])) = false := by
  have : PyData.eqv (.tuple [.str x, .str y]) (.tuple [.str x, .str y]) = true := by
    show ((x == x) && ((y == y) && true)) = true
    simp
  rw [this]; rfl
theorem dp_strs {K : PySem.W.Frag} {H : Hp} {t : Addr} {x y : Str} (h : SqT K H t [.str x, .str y]) : Dp K H (.ref t) (.tuple [.str x, .str y]) := .tup h (.cons (.str _) (.cons (.str _) .nil))
/-- an object that is no moment and may be shown -/
def Odd (K : PySem.W.Frag) (H : Hp) (x : V) : Prop := ∃ d, Dp K H x d ∧ OkD d ∧ isMom d = false
theorem Odd.same {K : PySem.W.Frag} {H H' : Hp} {x : V} (h : Odd K H x) (s : Same H H') : Odd K H' x := by
  obtain ⟨d, h1, h2, h3⟩ := h
  exact ⟨d, sameD s _ h1, h2, h3⟩
theorem odd_int {K : PySem.W.Frag} {H : Hp} {i : Int} (h : ¬ (-10000000000000000000000000000000 < i ∧ i < 10000000000000000000000000000000)) (h1 : -1000000000000000000000000000000000000000000000 ≤ i) (h2 : i ≤ 1000000000000000000000000000000000000000000000) : Odd K H (.int i) :=
  ⟨.int i, .int i, okD_int (log_of h1 h2), Bool.eq_false_iff.mpr fun z => h (isMom_iff.mp z)⟩
end Spk

/-! the text of spanloops_k14_next_moments -/
namespace Spk
open PySem PySem.Spec PyProof.Rows L2
def topS (i : Nat) : Stmt := PySem.Challenge.pw_spanloops_k14_next_moments.main.body.getD i (.Pass ⟨0, 0, 0, 0⟩)
structure Blt (mg : Str → Option Value) : Prop where
  b_abs : mg "abs" = none
  b_any : mg "any" = none
  b_bool : mg "bool" = none
  b_enumerate : mg "enumerate" = none
  b_int : mg "int" = none
  b_isinstance : mg "isinstance" = none
  b_len : mg "len" = none
  b_max : mg "max" = none
  b_min : mg "min" = none
  b_range : mg "range" = none
  b_repr : mg "repr" = none
  b_set : mg "set" = none
  b_sorted : mg "sorted" = none
  b_str : mg "str" = none
  b_tuple : mg "tuple" = none
  b_zip : mg "zip" = none
structure Txt (K : PySem.W.Frag) (mg : Str → Option Value) : Prop where
  g_FIRST : ∃ t, mg "FIRST" = some (.int (-10000000000000000000000000000000) t)
  g_LAST : ∃ t, mg "LAST" = some (.int (10000000000000000000000000000000) t)
  g_FAR : ∃ t, mg "FAR" = some (.int (1000000000000000000000000000000) t)
  ends : EndsT K mg
end Spk
namespace Spk
open PySem PySem.Spec PyProof.Rows L2

local macro_rules | `(tactic| walk_at "ne") => `(tactic| first | assumption | exact Ne.symm (by assumption) | exact ne_of_none (by walk_at "hp") (by assumption) | exact Ne.symm (ne_of_none (by walk_at "hp") (by assumption)))
local macro_rules | `(tactic| walk_at "hp") => `(tactic| first | assumption | exact upd_same | (refine Eq.trans (upd_ne ?_) ?_; (focus walk_at "ne"); walk_at "hp"))
local macro_rules | `(tactic| walk_at "fact") => `(tactic| first | rfl | assumption | exact SqL.hp (by walk_at "hp") | exact SqT.hp (by walk_at "hp") | walk_at "hp" | exact Or.inl (SqL.hp (by walk_at "hp")) | exact Or.inr (SqT.hp (by walk_at "hp")) | omega | decide | exact Nat.le_of_ble_eq_true rfl | exact lgDiv (by omega) (by omega) | exact Or.inl ⟨by omega, by omega⟩ | exact Or.inr ⟨by omega, by omega⟩ | exact ⟨by omega, by omega⟩ | exact ⟨by omega, by omega, by omega⟩)
local macro_rules | `(tactic| walk_at "vc1") => `(tactic| first
  | (refine And.intro ?_ ?_; (focus walk_at "fact"))
  | refine iteF ?_
  | refine iteT ?_
  | refine ite2 (fun _ => ?_) (fun _ => ?_)
  | apply Exists.intro
  | (refine Or.inl ?_; apply Exists.intro; refine And.intro rfl ?_)
  | (refine Or.inr ?_; apply Exists.intro; refine And.intro rfl ?_))
local macro_rules | `(tactic| walk_at "vc") => `(tactic| repeat' (walk_at "vc1"))
/-! is_number -/
abbrev s_is_number : Stmt := topS 14
abbrev sc_is_number_N : List Str := ["value"]
theorem sc_is_number : FnScope sc_is_number_N ["value"] (defScope s_is_number) := ⟨rfl, rfl, rfl, by decide +kernel, rfl, by decide +kernel, by decide +kernel⟩
def sp_is_number (K : PySem.W.Frag) : Sp := fun vs H Q _ => ∃ (v : V) (d : PyData), vs = [v] ∧ Dp K H v d ∧ Q (.bl (isNum d)) H
section
variable {P : Program} {w : World} {K : PySem.W.Frag} {mg : Str → Option Value} {bh : Heap}
theorem ok_is_number {f : Addr} {fd : FuncData}  (B : Blt mg) (T : Txt K mg)  (F : Fun K "is_number" "is_number" s_is_number f fd) : FnOk P w K mg bh CX0 1 f fd ["value"] (sp_is_number K) := by
  refine F.ok sc_is_number (fun vs H Q E h => ?_) (fun cdv A outer s H vs Q E hr h => ?_)
  · obtain ⟨v, d, rfl, _⟩ := h
    rfl
  · obtain ⟨v, d, rfl, dp, q⟩ := h
    refine ⟨_, (pss_one (ps_ret (pe_and (pe_callB call_isi (by rfl) B.b_isinstance (by decide +kernel) (pa_cons (pv 0) (pa_cons (pe_bltn (v := .ty "int") (by rfl) B.b_int (by decide +kernel) rfl) pa_nil))) (pe_one (pe_not (pe_callB call_isi (by rfl) B.b_isinstance (by decide +kernel) (pa_cons (pv 0) (pa_cons (pe_bltn (v := .ty "bool") (by rfl) B.b_bool (by decide +kernel) rfl) pa_nil)))))))), ?_⟩
    refine ⟨v, rfl, _, _, _, _, _, rfl, .ty _, dpTy dp, kit_ty (kitInt d), _, rfl, ?_⟩
    refine ite2 (fun c => ?_) (fun c => ?_)
    · refine ⟨v, rfl, _, _, _, _, _, rfl, .ty _, dpTy dp, kit_ty (kitBool d), _, rfl, ?_⟩
      rw [isNum_eq, c] at q
      exact q
    · rw [isNum_eq, Bool.eq_false_iff.mpr c] at q
      exact q
end
/-! is_edge -/
abbrev s_is_edge : Stmt := topS 15
abbrev sc_is_edge_N : List Str := ["value"]
theorem sc_is_edge : FnScope sc_is_edge_N ["value"] (defScope s_is_edge) := ⟨rfl, rfl, rfl, by decide +kernel, rfl, by decide +kernel, by decide +kernel⟩
def sp_is_edge (K : PySem.W.Frag) : Sp := fun vs H Q _ => ∃ (v : V) (d : PyData), vs = [v] ∧ Dp K H v d ∧ ∀ H', Same H H' → Q (.bl (isEdge d)) H'
section
variable {P : Program} {w : World} {K : PySem.W.Frag} {mg : Str → Option Value} {bh : Heap}
theorem ok_is_edge {f : Addr} {fd : FuncData} {f_is_number : Addr} {fd_is_number : FuncData} (B : Blt mg) (T : Txt K mg) (R_is_number : Rdy P w K mg bh "is_number" 1 ["value"] (sp_is_number K) f_is_number fd_is_number) (F : Fun K "is_edge" "is_edge" s_is_edge f fd) : FnOk P w K mg bh CX0 2 f fd ["value"] (sp_is_edge K) := by
  refine F.ok sc_is_edge (fun vs H Q E h => ?_) (fun cdv A outer s H vs Q E hr h => ?_)
  · obtain ⟨v, d, rfl, _⟩ := h
    rfl
  · obtain ⟨v, d, rfl, dp, q⟩ := h
    refine ⟨_, (pss_one (ps_ret (pe_and (pe_rdy R_is_number hr (by decide) (by rfl) (pa_cons (pv 0) pa_nil)) (pe_one (pe_or (pe_chain op_le op_le (pe_un un_neg (pe_globI T.g_FAR (by rfl))) (pv 0) (pe_globI T.g_FAR (by rfl))) (pe_one (pe_cmpR op_in_seq (pv 0) (pe_tup (pa_cons (pe_globI T.g_FIRST (by rfl)) (pa_cons (pe_globI T.g_LAST (by rfl)) pa_nil))) (by rfl)))))))), ?_⟩
    refine ⟨v, rfl, v, d, rfl, dp, _, rfl, ?_⟩
    refine ite2 (fun c => ?_) (fun c => ?_)
    · obtain ⟨i, rfl, rfl⟩ := int_of dp c
      · have fin : ∀ b, isEdge (.int i) = b → ∀ H', Same H H' → Q (.bl b) H' := fun b e => e ▸ q
        refine ⟨_, rfl, _, rfl, _, _, rfl, rfl, _, rfl, ?_⟩
        refine ite2 (fun c1 => ?_) (fun c1 => ?_)
        · refine ⟨_, _, rfl, rfl, _, rfl, ?_⟩
          refine ite2 (fun c2 => ?_) (fun c2 => ?_)
          · refine fin true ?_ H (Same.refl H)
            simp only [decide_eq_true_eq] at c1 c2
            simp [isEdge, edgeI, c1, c2]
          · refine ⟨_, rfl, (by show 2 ≤ sizeLine; decide), fun p hp => ?_⟩
            refine ⟨p, _, rfl, .inr (SqT.hp upd_same), rfl, rfl, ?_⟩
            refine fin _ ?_ _ (Same.new hp)
            simp only [decide_eq_true_eq] at c1 c2
            show edgeI i = inV (.int i) [.int (-10000000000000000000000000000000), .int 10000000000000000000000000000000]
            rw [inV2]
            simp [edgeI, c1, c2]
        · refine ⟨_, rfl, iteF ⟨_, rfl, (by show 2 ≤ sizeLine; decide), fun p hp => ?_⟩⟩
          refine ⟨p, _, rfl, .inr (SqT.hp upd_same), rfl, rfl, ?_⟩
          refine fin _ ?_ _ (Same.new hp)
          simp only [decide_eq_true_eq] at c1
          show edgeI i = inV (.int i) [.int (-10000000000000000000000000000000), .int 10000000000000000000000000000000]
          rw [inV2]
          simp [edgeI, c1]
    · rw [isEdge_not c] at q
      exact q H (Same.refl H)
end
/-! is_moment -/
abbrev s_is_moment : Stmt := topS 16
abbrev sc_is_moment_N : List Str := ["value"]
theorem sc_is_moment : FnScope sc_is_moment_N ["value"] (defScope s_is_moment) := ⟨rfl, rfl, rfl, by decide +kernel, rfl, by decide +kernel, by decide +kernel⟩
def sp_is_moment (K : PySem.W.Frag) : Sp := fun vs H Q _ => ∃ (v : V) (d : PyData), vs = [v] ∧ Dp K H v d ∧ Q (.bl (isMom d)) H
section
variable {P : Program} {w : World} {K : PySem.W.Frag} {mg : Str → Option Value} {bh : Heap}
theorem ok_is_moment {f : Addr} {fd : FuncData} {f_is_number : Addr} {fd_is_number : FuncData} (B : Blt mg) (T : Txt K mg) (R_is_number : Rdy P w K mg bh "is_number" 1 ["value"] (sp_is_number K) f_is_number fd_is_number) (F : Fun K "is_moment" "is_moment" s_is_moment f fd) : FnOk P w K mg bh CX0 2 f fd ["value"] (sp_is_moment K) := by
  refine F.ok sc_is_moment (fun vs H Q E h => ?_) (fun cdv A outer s H vs Q E hr h => ?_)
  · obtain ⟨v, d, rfl, _⟩ := h
    rfl
  · obtain ⟨v, d, rfl, dp, q⟩ := h
    refine ⟨_, (pss_one (ps_ret (pe_and (pe_rdy R_is_number hr (by decide) (by rfl) (pa_cons (pv 0) pa_nil)) (pe_one (pe_chain op_lt op_lt (pe_globI T.g_FIRST (by rfl)) (pv 0) (pe_globI T.g_LAST (by rfl))))))), ?_⟩
    refine ⟨v, rfl, v, d, rfl, dp, _, rfl, ?_⟩
    refine ite2 (fun c => ?_) (fun c => ?_)
    · obtain ⟨i, rfl, rfl⟩ := int_of dp c
      refine ⟨_, rfl, _, _, rfl, rfl, _, rfl, ?_⟩
      refine ite2 (fun c1 => ?_) (fun c1 => ?_)
      · refine ⟨_, _, rfl, rfl, ?_⟩
        have e : isMom (.int i) = decide (i < 10000000000000000000000000000000) := by show (decide (-10000000000000000000000000000000 < i) && decide (i < 10000000000000000000000000000000)) = _; rw [c1, Bool.true_and]
        rw [e] at q
        exact q
      · have e : isMom (.int i) = false := by show (decide (-10000000000000000000000000000000 < i) && decide (i < 10000000000000000000000000000000)) = _; rw [Bool.eq_false_iff.mpr c1, Bool.false_and]
        rw [e] at q
        exact q
    · rw [isMom_not c] at q
      exact q
end
/-! is_pair -/
abbrev s_is_pair : Stmt := topS 17
abbrev sc_is_pair_N : List Str := ["value"]
theorem sc_is_pair : FnScope sc_is_pair_N ["value"] (defScope s_is_pair) := ⟨rfl, rfl, rfl, by decide +kernel, rfl, by decide +kernel, by decide +kernel⟩
def sp_is_pair (K : PySem.W.Frag) : Sp := fun vs H Q _ => ∃ (v : V) (d : PyData), vs = [v] ∧ Dp K H v d ∧ ∀ H', Same H H' → Q (.bl (isPair d)) H'
section
variable {P : Program} {w : World} {K : PySem.W.Frag} {mg : Str → Option Value} {bh : Heap}
theorem ok_is_pair {f : Addr} {fd : FuncData} {f_is_edge : Addr} {fd_is_edge : FuncData} (B : Blt mg) (T : Txt K mg) (R_is_edge : Rdy P w K mg bh "is_edge" 2 ["value"] (sp_is_edge K) f_is_edge fd_is_edge) (F : Fun K "is_pair" "is_pair" s_is_pair f fd) : FnOk P w K mg bh CX0 3 f fd ["value"] (sp_is_pair K) := by
  refine F.ok sc_is_pair (fun vs H Q E h => ?_) (fun cdv A outer s H vs Q E hr h => ?_)
  · obtain ⟨v, d, rfl, _⟩ := h
    rfl
  · obtain ⟨v, d, rfl, dp, q⟩ := h
    refine ⟨_, (pss_one (ps_ret (pe_and (pe_callB call_isi (by rfl) B.b_isinstance (by decide +kernel) (pa_cons (pv 0) (pa_cons (pe_bltn (v := .ty "tuple") (by rfl) B.b_tuple (by decide +kernel) rfl) pa_nil))) (pe_and (pe_cmpR op_eq (pe_callB call_len_seq (by rfl) B.b_len (by decide +kernel) (pa_cons (pv 0) pa_nil)) pe_int (nomark _)) (pe_and (pe_rdy R_is_edge hr (by decide) (by rfl) (pa_cons (pe_ix ix_tup (pv 0) pe_int (fun _ _ => rfl)) pa_nil)) (pe_one (pe_rdy R_is_edge hr (by decide) (by rfl) (pa_cons (pe_ix ix_tup (pv 0) pe_int (fun _ _ => rfl)) pa_nil)))))))), ?_⟩
    refine ⟨v, rfl, _, _, _, _, _, rfl, .ty _, dpTy dp, kit_ty (kitTup d), _, rfl, ?_⟩
    refine ite2 (fun c => ?_) (fun c => ?_)
    · obtain ⟨a, xs, ds, rfl, rfl, sq, da⟩ := tup_of dp c
      refine ⟨_, rfl, a, xs, rfl, .inr sq, rfl, _, rfl, ?_⟩
      refine ite2 (fun c1 => ?_) (fun c1 => ?_)
      · have l2 : (xs.length : Int) = 2 := V.int.inj (of_decide_eq_true c1)
        obtain ⟨x, y, d1, d2, rfl, rfl, h1, h2⟩ := dpAll2 da (by omega)
        refine ⟨_, rfl, a, _, 0, x, rfl, rfl, sq, rfl, x, d1, rfl, h1, fun H1 s1 => ?_⟩
        refine ⟨_, rfl, ?_⟩
        refine ite2 (fun c2 => ?_) (fun c2 => ?_)
        · refine ⟨_, rfl, a, _, 1, y, rfl, rfl, sameT s1 sq, rfl, y, d2, rfl, sameD s1 d2 h2, fun H2 s2 => ?_⟩
          have z := q H2 (s1.trans s2)
          have e : isPair (.tuple [d1, d2]) = isEdge d2 := by show (isEdge d1 && isEdge d2) = _; rw [c2, Bool.true_and]
          rw [e] at z
          exact z
        · have z := q H1 s1
          have e : isPair (.tuple [d1, d2]) = false := by show (isEdge d1 && isEdge d2) = _; rw [Bool.eq_false_iff.mpr c2, Bool.false_and]
          rw [e] at z
          exact z
      · have ne : ds.length ≠ 2 := fun z => c1 (decide_eq_true (by rw [dpAll_len da, z]; rfl))
        rw [isPair_len ne] at q
        exact q H (Same.refl H)
    · rw [isPair_not c] at q
      exact q H (Same.refl H)
end
/-! is_stretch -/
abbrev s_is_stretch : Stmt := topS 18
abbrev sc_is_stretch_N : List Str := ["value"]
theorem sc_is_stretch : FnScope sc_is_stretch_N ["value"] (defScope s_is_stretch) := ⟨rfl, rfl, rfl, by decide +kernel, rfl, by decide +kernel, by decide +kernel⟩
def sp_is_stretch (K : PySem.W.Frag) : Sp := fun vs H Q _ => ∃ (v : V) (d : PyData), vs = [v] ∧ Dp K H v d ∧ ∀ H', Same H H' → Q (.bl (isStr d)) H'
section
variable {P : Program} {w : World} {K : PySem.W.Frag} {mg : Str → Option Value} {bh : Heap}
theorem ok_is_stretch {f : Addr} {fd : FuncData} {f_is_pair : Addr} {fd_is_pair : FuncData} (B : Blt mg) (T : Txt K mg) (R_is_pair : Rdy P w K mg bh "is_pair" 3 ["value"] (sp_is_pair K) f_is_pair fd_is_pair) (F : Fun K "is_stretch" "is_stretch" s_is_stretch f fd) : FnOk P w K mg bh CX0 4 f fd ["value"] (sp_is_stretch K) := by
  refine F.ok sc_is_stretch (fun vs H Q E h => ?_) (fun cdv A outer s H vs Q E hr h => ?_)
  · obtain ⟨v, d, rfl, _⟩ := h
    rfl
  · obtain ⟨v, d, rfl, dp, q⟩ := h
    refine ⟨_, (pss_one (ps_ret (pe_and (pe_rdy R_is_pair hr (by decide) (by rfl) (pa_cons (pv 0) pa_nil)) (pe_and (pe_cmpR op_le (pe_ix ix_tup (pv 0) pe_int (fun _ _ => rfl)) (pe_ix ix_tup (pv 0) pe_int (fun _ _ => rfl)) (nomark _)) (pe_and (pe_cmpR op_lt (pe_ix ix_tup (pv 0) pe_int (fun _ _ => rfl)) (pe_globI T.g_LAST (by rfl)) (nomark _)) (pe_one (pe_cmpR op_gt (pe_ix ix_tup (pv 0) pe_int (fun _ _ => rfl)) (pe_globI T.g_FIRST (by rfl)) (nomark _)))))))), ?_⟩
    refine ⟨v, rfl, v, d, rfl, dp, fun H1 s1 => ?_⟩
    refine ⟨_, rfl, ?_⟩
    refine ite2 (fun c => ?_) (fun c => ?_)
    · obtain ⟨a, b, rfl, ea, eb⟩ := pair_of c
      obtain ⟨p, rfl, sq⟩ := dpPr (sameD s1 _ dp)
      have fin : ∀ z, strP (a, b) = z → Q (.bl z) H1 := fun z e => e ▸ q H1 s1
      refine ⟨_, rfl, p, _, 0, _, rfl, rfl, sq, rfl, _, rfl, p, _, 1, _, rfl, rfl, sq, rfl, _, _, rfl, rfl, _, rfl, ?_⟩
      refine ite2 (fun c1 => ?_) (fun c1 => ?_)
      · refine ⟨_, rfl, p, _, 0, _, rfl, rfl, sq, rfl, _, _, rfl, rfl, _, rfl, ?_⟩
        refine ite2 (fun c2 => ?_) (fun c2 => ?_)
        · refine ⟨_, rfl, p, _, 1, _, rfl, rfl, sq, rfl, _, _, rfl, rfl, fin _ ?_⟩
          unfold strP; rw [ea, eb, c1, c2]; rfl
        · refine fin _ ?_
          unfold strP; rw [ea, eb, c1, Bool.eq_false_iff.mpr c2]; rfl
      · refine fin _ ?_
        unfold strP; rw [ea, eb, Bool.eq_false_iff.mpr c1]; rfl
    · rw [isStr_not c] at q
      exact q H1 s1
end
/-! check_moment -/
abbrev s_check_moment : Stmt := topS 19
abbrev sc_check_moment_N : List Str := ["moment"]
theorem sc_check_moment : FnScope sc_check_moment_N ["moment"] (defScope s_check_moment) := ⟨rfl, rfl, rfl, by decide +kernel, rfl, by decide +kernel, by decide +kernel⟩
def sp_check_moment (K : PySem.W.Frag) (C : Addr) : Sp := fun vs H Q E => ∃ (v : V) (d : PyData), vs = [v] ∧ Dp K H v d ∧ (isMom d = true → Q .non H) ∧ (isMom d = false → ∀ dd, H dd = none → E (.ref C) (some dd) (upd H dd (.xd [(("moment" : Str), v)])))
section
variable {P : Program} {w : World} {K : PySem.W.Frag} {mg : Str → Option Value} {bh : Heap}
theorem ok_check_moment {f : Addr} {fd : FuncData} {C_BadMoment fI_BadMoment : Addr} {fdE_BadMoment : FuncData} {f_is_moment : Addr} {fd_is_moment : FuncData} (B : Blt mg) (T : Txt K mg) (E_BadMoment : ErrT P w K mg bh "BadMoment" "moment" C_BadMoment fI_BadMoment fdE_BadMoment) (R_is_moment : Rdy P w K mg bh "is_moment" 2 ["value"] (sp_is_moment K) f_is_moment fd_is_moment) (F : Fun K "check_moment" "check_moment" s_check_moment f fd) : FnOk P w K mg bh (L2.CX P w) 3 f fd ["moment"] (sp_check_moment K C_BadMoment) := by
  refine F.okX sc_check_moment (fun vs H Q E h => ?_) (fun cdv A outer s H vs Q E hr h => ?_)
  · obtain ⟨v, d, rfl, _⟩ := h
    rfl
  · obtain ⟨v, d, rfl, dp, q, qe⟩ := h
    refine ⟨_, (pss_one (ps_if (pt_not (pt_val (pe_rdy R_is_moment hr (by decide) (by rfl) (pa_cons (pv 0) pa_nil))))
      (pss_one (ps_raiseE rfl E_BadMoment hr (by decide) (takes_of rfl rfl rfl rfl) (by rfl) (pv 0)))
      pss_nil)), ?_⟩
    refine ⟨_, rfl, v, d, rfl, dp, _, rfl, ?_⟩
    refine ite2 (fun c => ?_) (fun c => ?_)
    · exact ⟨_, rfl, errK fun dd nd => qe (by simpa using c) dd nd⟩
    · exact q (by simpa using c)
end
/-! check_ends -/
abbrev s_check_ends : Stmt := topS 20
abbrev sc_check_ends_N : List Str := ["ends"]
theorem sc_check_ends : FnScope sc_check_ends_N ["ends"] (defScope s_check_ends) := ⟨rfl, rfl, rfl, by decide +kernel, rfl, by decide +kernel, by decide +kernel⟩
def sp_check_ends (K : PySem.W.Frag) : Sp := fun vs H Q _ => ∃ z : Bool, vs = [endsV z] ∧ ∀ H', Same H H' → Q .non H'
section
variable {P : Program} {w : World} {K : PySem.W.Frag} {mg : Str → Option Value} {bh : Heap}
theorem ok_check_ends {f : Addr} {fd : FuncData}  (B : Blt mg) (T : Txt K mg)  (F : Fun K "check_ends" "check_ends" s_check_ends f fd) : FnOk P w K mg bh CX0 1 f fd ["ends"] (sp_check_ends K) := by
  refine F.ok sc_check_ends (fun vs H Q E h => ?_) (fun cdv A outer s H vs Q E hr h => ?_)
  · obtain ⟨z, rfl, _⟩ := h
    rfl
  · obtain ⟨z, rfl, q⟩ := h
    refine ⟨_, (pss_one (ps_if (pt_cmpR op_notIn_seq (pv 0) (pe_tup (pa_cons (pe_half T.ends (by rfl)) (pa_cons (pe_shut T.ends (by rfl)) pa_nil))) (by rfl))
      (pss_one ps_never)
      pss_nil)), ?_⟩
    refine ⟨_, rfl, (by show 2 ≤ sizeLine; decide), fun p hp => ?_⟩
    refine ⟨p, _, rfl, .inr (SqT.hp upd_same), (by cases z <;> rfl), rfl, _, rfl, ?_⟩
    have e : (if true = true then !inV (endsV z) [.str "half", .str "shut"] else inV (endsV z) [.str "half", .str "shut"]) = false := by cases z <;> decide +kernel
    rw [e]
    exact iteF (q _ (Same.new hp))
end
/-! check_stretches -/
abbrev s_check_stretches : Stmt := topS 21
abbrev sc_check_stretches_N : List Str := ["spans", "index", "span"]
theorem sc_check_stretches : FnScope sc_check_stretches_N ["spans"] (defScope s_check_stretches) := ⟨rfl, rfl, rfl, by decide +kernel, rfl, by decide +kernel, by decide +kernel⟩
def sp_check_stretches (K : PySem.W.Frag) : Sp := fun vs H Q _ => ∃ (a : Addr) (xs : List V) (ds : List PyData), vs = [.ref a] ∧ Sq K H a xs ∧ DpAll K H xs ds ∧ (∀ d ∈ ds, isStr d = true) ∧ ∀ H', Same H H' → Q .non H'
section
variable {P : Program} {w : World} {K : PySem.W.Frag} {mg : Str → Option Value} {bh : Heap}
theorem ok_check_stretches {f : Addr} {fd : FuncData} {f_is_stretch : Addr} {fd_is_stretch : FuncData} (B : Blt mg) (T : Txt K mg) (R_is_stretch : Rdy P w K mg bh "is_stretch" 4 ["value"] (sp_is_stretch K) f_is_stretch fd_is_stretch) (F : Fun K "check_stretches" "check_stretches" s_check_stretches f fd) : FnOk P w K mg bh CX0 5 f fd ["spans"] (sp_check_stretches K) := by
  refine F.ok sc_check_stretches (fun vs H Q E h => ?_) (fun cdv A outer s H vs Q E hr h => ?_)
  · obtain ⟨a, xs, ds, rfl, _⟩ := h
    rfl
  · obtain ⟨a, xs, ds, rfl, sq, da, hd, q⟩ := h
    refine ⟨_, (pss_one (ps_for PassesOwn.never rfl (pi_en (by rfl) B.b_enumerate (pa_cons (pv 0) pa_nil)) (pg_tup (by rfl) (pgs_cons (pg_name (i := 1) sc_check_stretches.nd rfl (Or.inl rfl)) (pgs_cons (pg_name (i := 2) sc_check_stretches.nd rfl (Or.inl rfl)) pgs_nil)))
      (pss_one (ps_if (pt_not (pt_val (pe_rdy R_is_stretch hr (by decide) (by rfl) (pa_cons (pv 2) pa_nil))))
      (pss_one ps_never)
      pss_nil)))), ?_⟩
    refine ⟨_, rfl, a, xs, rfl, sq, fun J wk => ?_⟩
    refine for_it wk (fun i σ H' => (∃ y z, σ = [some (.ref a), y, z]) ∧ Same H H') ⟨⟨none, none, rfl⟩, Same.refl H⟩ (fun i σ H' _ h => sameK h.2) ?_ ?_
    · rintro i x σ H1 H2 hi ⟨⟨y, z, rfl⟩, s1⟩ ⟨T, x1, x2, rfl, hT, rfl, e1, e2⟩
      obtain ⟨d, hm, dp⟩ := dpAll_get da e2
      have s2 : Same H (upd H1 T (.tup [x1, x2])) := s1.trans (Same.new hT)
      refine ⟨T, _, rfl, SqT.hp upd_same, rfl, x1, _, rfl, x2, _, rfl, rfl, ?_⟩
      refine ⟨x2, rfl, x2, d, rfl, sameD s2 d dp, fun H3 s3 => ⟨_, rfl, ?_⟩⟩
      rw [hd d hm]
      exact iteF ⟨⟨_, _, rfl⟩, s2.trans s3⟩
    · rintro σ H' ⟨⟨y, z, rfl⟩, s1⟩
      exact q H' s1
end
/-! is_empty -/
abbrev s_is_empty : Stmt := topS 22
abbrev sc_is_empty_N : List Str := ["pair", "ends", "begin", "end"]
theorem sc_is_empty : FnScope sc_is_empty_N ["pair", "ends"] (defScope s_is_empty) := ⟨rfl, rfl, rfl, by decide +kernel, rfl, by decide +kernel, by decide +kernel⟩
def sp_is_empty (K : PySem.W.Frag) : Sp := fun vs H Q _ => ∃ (t : Addr) (b e : Int) (z : Bool), vs = [.ref t, endsV z] ∧ SqT K H t [.int b, .int e] ∧ ∀ H', Same H H' → Q (.bl (emp z (b, e))) H'
section
variable {P : Program} {w : World} {K : PySem.W.Frag} {mg : Str → Option Value} {bh : Heap}
theorem ok_is_empty {f : Addr} {fd : FuncData} {f_check_ends : Addr} {fd_check_ends : FuncData} (B : Blt mg) (T : Txt K mg) (R_check_ends : Rdy P w K mg bh "check_ends" 1 ["ends"] (sp_check_ends K) f_check_ends fd_check_ends) (F : FunD K "is_empty" "is_empty" (defArgs s_is_empty) (defBody s_is_empty) (defScope s_is_empty) [.str "half"] [] f fd) : FnOk P w K mg bh CX0 2 f fd ["pair", "ends"] (sp_is_empty K) := by
  refine okD F sc_is_empty (fun vs H Q E h => ?_) (fun cdv A outer s H vs Q E hr h => ?_)
  · obtain ⟨t, b, e, z, rfl, _⟩ := h
    rfl
  · obtain ⟨t, b, e, z, rfl, sq, q⟩ := h
    refine ⟨_, (pss_cons (ps_expr (pe_rdy R_check_ends hr (by decide) (by rfl) (pa_cons (pv 1) pa_nil)))
      (pss_cons (ps_asg (pv 0) (pg_tup (by rfl) (pgs_cons (pg_name (i := 2) sc_is_empty.nd rfl (Or.inl rfl)) (pgs_cons (pg_name (i := 3) sc_is_empty.nd rfl (Or.inl rfl)) pgs_nil))))
      (pss_cons (ps_if (pt_cmpR op_eq (pv 1) (pe_shut T.ends (by rfl)) (nomark _))
      (pss_one (ps_ret (pe_cmpR op_gt (pv 2) (pv 3) (nomark _))))
      pss_nil)
      (pss_one (ps_ret (pe_cmpR op_ge (pv 2) (pv 3) (nomark _))))))), ?_⟩
    refine ⟨_, rfl, z, rfl, fun H1 s1 => ?_⟩
    refine ⟨_, rfl, t, _, rfl, sameT s1 sq, rfl, _, _, rfl, _, _, rfl, rfl, ?_⟩
    refine ⟨_, rfl, endsV_scal z, _, rfl, ?_⟩
    rw [endsV_shut]
    have z1 := q H1 s1
    cases z with
    | true => exact iteT ⟨_, rfl, _, rfl, _, _, rfl, rfl, z1⟩
    | false => exact iteF ⟨_, rfl, _, rfl, _, _, rfl, rfl, z1⟩
end
/-! join_sorted -/
abbrev s_join_sorted : Stmt := topS 23
abbrev sc_join_sorted_N : List Str := ["spans", "rows", "low", "high", "begin", "end"]
theorem sc_join_sorted : FnScope sc_join_sorted_N ["spans"] (defScope s_join_sorted) := ⟨rfl, rfl, rfl, by decide +kernel, rfl, by decide +kernel, by decide +kernel⟩
def sp_join_sorted (K : PySem.W.Frag) : Sp := fun vs H Q _ => ∃ (a : Addr) (ts : List Addr) (ps : List Pr), vs = [.ref a] ∧ SqL K H a (ts.map V.ref) ∧ Pd H ts ps ∧ ps.length ≤ 1000 ∧ ∀ r us H', H r = none → H' r = some (.lst (us.map V.ref)) → Pd H' us (joinM ps) → Same H H' → Q (.ref r) H'
section
variable {P : Program} {w : World} {K : PySem.W.Frag} {mg : Str → Option Value} {bh : Heap}
theorem ok_join_sorted {f : Addr} {fd : FuncData}  (B : Blt mg) (T : Txt K mg)  (F : Fun K "join_sorted" "join_sorted" s_join_sorted f fd) : FnOk P w K mg bh CX0 1 f fd ["spans"] (sp_join_sorted K) := by
  refine F.ok sc_join_sorted (fun vs H Q E h => ?_) (fun cdv A outer s H vs Q E hr h => ?_)
  · obtain ⟨a, ts, ps, rfl, _⟩ := h
    rfl
  · obtain ⟨a, ts, ps, rfl, sq, pd, hlen, q⟩ := h
    refine ⟨_, (pss_cons (ps_if (pt_not (pt_truth (pv 0) (by intro _; rfl)))
      (pss_one (ps_ret (pe_lst pa_nil)))
      pss_nil)
      (pss_cons (ps_set (i := 1) sc_join_sorted.nd rfl (Or.inl rfl) (pe_lst pa_nil))
      (pss_cons (ps_asg (pe_ix ix_list (pv 0) pe_int (fun _ _ => rfl)) (pg_tup (by rfl) (pgs_cons (pg_name (i := 2) sc_join_sorted.nd rfl (Or.inl rfl)) (pgs_cons (pg_name (i := 3) sc_join_sorted.nd rfl (Or.inl rfl)) pgs_nil))))
      (pss_cons (ps_for PassesOwn.never rfl (pi_list (pv 0)) (pg_tup (by rfl) (pgs_cons (pg_name (i := 4) sc_join_sorted.nd rfl (Or.inl rfl)) (pgs_cons (pg_name (i := 5) sc_join_sorted.nd rfl (Or.inl rfl)) pgs_nil)))
      (pss_one (ps_if (pt_cmpR op_gt (pv 4) (pv 3) (nomark _))
      (pss_cons (ps_expr (pe_bm PySem.F.plainAttrs_list PySem.F.slot_list_append PySem.F.type_list_append mt_append (pv 1) (pa_cons (pe_tup (pa_cons (pv 2) (pa_cons (pv 3) pa_nil))) pa_nil)))
      (pss_one (ps_par (i := 2) (j := 3) (by rfl) sc_join_sorted.nd rfl rfl (by decide) rfl rfl (pa_cons (pv 4) (pa_cons (pv 5) pa_nil)) (by rfl))))
      (pss_one (ps_set (i := 3) sc_join_sorted.nd rfl (Or.inl rfl) (pe_callB (call_max2 rfl) (by rfl) B.b_max (by decide +kernel) (pa_cons (pv 3) (pa_cons (pv 5) pa_nil))))))))
      (pss_cons (ps_expr (pe_bm PySem.F.plainAttrs_list PySem.F.slot_list_append PySem.F.type_list_append mt_append (pv 1) (pa_cons (pe_tup (pa_cons (pv 2) (pa_cons (pv 3) pa_nil))) pa_nil)))
      (pss_one (ps_ret (pv 1)))))))), ?_⟩
    refine ⟨_, rfl, _, .inl ⟨_, sq, rfl⟩, ?_⟩
    cases ts with
    | nil =>
      cases ps with
      | cons _ _ => exact pd.elim
      | nil =>
        refine iteT ⟨Nat.zero_le _, fun r hr' => ?_⟩
        exact q r [] _ hr' upd_same trivial (Same.new hr')
    | cons t0 ts =>
      cases ps with
      | nil => exact pd.elim
      | cons p0 ps =>
        refine iteF ⟨Nat.zero_le _, fun r nr => ?_⟩
        have sr : Same H (upd H r (.lst [])) := Same.new nr
        refine ⟨_, rfl, a, _, 0, _, rfl, rfl, sr.seq sq, atI_nat (j := 0) rfl, t0, _, rfl, SqT.hp (sr _ _ pd.1), rfl, _, _, rfl, _, _, rfl, rfl, ?_⟩
        refine ⟨_, rfl, a, rfl, ⟨_, sr.seq sq⟩, ?_⟩
        refine for_list (K := K) (a := a) (xs := (t0 :: ts).map V.ref) (fun i σ H' => ∃ y4 y5 us, σ = [some (.ref a), some (.ref r), some (.int (((p0 :: ps).take i).foldl stepJ ([], p0)).2.1), some (.int (((p0 :: ps).take i).foldl stepJ ([], p0)).2.2), y4, y5] ∧ Same H H' ∧ H' r = some (.lst (us.map V.ref)) ∧ Pd H' us (((p0 :: ps).take i).foldl stepJ ([], p0)).1)
          ⟨none, none, [], rfl, sr, upd_same, trivial⟩ (fun i σ H' _ h => ?_) ?_ ?_
        · obtain ⟨_, _, _, _, s1, _⟩ := h
          exact s1.seq sq
        · rintro i x σ H1 hx ⟨y4, y5, us, rfl, s1, hr1, pu⟩
          obtain ⟨t, ht, rfl⟩ := map_get hx
          obtain ⟨p, hp, et⟩ := Pd.get pd ht
          have e := take_more hp
          have ll := stepJ_len0 ((p0 :: ps).take i) p0
          have li : ((p0 :: ps).take i).length ≤ 1000 := Nat.le_trans (List.length_take_le' ..) hlen
          have lu := pu.len
          generalize hS : ((p0 :: ps).take i).foldl stepJ ([], p0) = S at *
          have e2 : ((p0 :: ps).take (i + 1)).foldl stepJ ([], p0) = stepJ S p := by rw [e, List.foldl_append, hS]; rfl
          refine ⟨t, _, rfl, SqT.hp (s1 _ _ et), rfl, _, _, rfl, _, _, rfl, rfl, ?_⟩
          refine ⟨_, rfl, _, rfl, _, _, rfl, rfl, _, rfl, ?_⟩
          rw [e2]
          refine ite2 (fun c => ?_) (fun c => ?_)
          · have c' : S.2.2 < p.1 := of_decide_eq_true c
            have ej : stepJ S p = (S.1 ++ [S.2], p) := if_pos c'
            rw [ej]
            refine ⟨_, rfl, .inl ⟨rfl, _, SqL.hp hr1⟩, _, rfl, _, rfl, (by show 2 ≤ sizeLine; decide), fun T nT => ?_⟩
            have nrT : r ≠ T := ne_of_none hr1 nT
            refine ⟨r, _, _, rfl, rfl, (upd_ne nrT).trans hr1, ?_, ?_⟩
            · rw [List.length_map]
              exact small1000 (by omega)
            · refine ⟨_, rfl, _, rfl, _, _, rfl, ?_⟩
              refine ⟨_, _, us ++ [T], rfl, ?_, ?_, ?_⟩
              · intro b o hb
                rw [upd_ne (ne_of_none hb nr), upd_ne (ne_of_none (s1 _ _ hb) nT)]
                exact s1 _ _ hb
              · rw [upd_same, List.map_append]; rfl
              · have kp : Kp r H1 (upd (upd H1 T (.tup [.int S.2.1, .int S.2.2])) r (.lst (us.map V.ref ++ [.ref T]))) := (Kp.new nT).trans Kp.at_
                refine Pd.app (Pd.kp kp (fun xs z => by rw [hr1] at z; cases z) pu) ⟨?_, trivial⟩
                rw [upd_ne (Ne.symm nrT), upd_same]
          · have c' : ¬ S.2.2 < p.1 := fun z => c (decide_eq_true z)
            have ej : stepJ S p = (S.1, (S.2.1, if S.2.2 < p.2 then p.2 else S.2.2)) := if_neg c'
            rw [ej]
            exact ⟨_, rfl, _, rfl, _, _, rfl, _, _, us, rfl, s1, hr1, pu⟩
        · rintro σ H1 ⟨y4, y5, us, rfl, s1, hr1, pu⟩
          have ef : (p0 :: ps).take ((t0 :: ts).map V.ref).length = p0 :: ps := List.take_of_length_le (by rw [List.length_map, pd.len]; exact Nat.le_refl _)
          rw [ef] at pu ⊢
          have lu := pu.len
          have ll := stepJ_len0 (p0 :: ps) p0
          have ej : joinM (p0 :: ps) = ((p0 :: ps).foldl stepJ ([], p0)).1 ++ [((p0 :: ps).foldl stepJ ([], p0)).2] := (joinF_eq (p0 :: ps)).symm
          generalize (p0 :: ps).foldl stepJ ([], p0) = S at *
          refine ⟨_, rfl, .inl ⟨rfl, _, SqL.hp hr1⟩, _, rfl, _, rfl, (by show 2 ≤ sizeLine; decide), fun T nT => ?_⟩
          have nrT : r ≠ T := ne_of_none hr1 nT
          refine ⟨r, _, _, rfl, rfl, (upd_ne nrT).trans hr1, ?_, ?_⟩
          · rw [List.length_map]
            exact small1000 (by omega)
          · refine ⟨_, rfl, q r (us ++ [T]) _ nr ?_ ?_ ?_⟩
            · rw [upd_same, List.map_append]; rfl
            · rw [ej]
              have kp : Kp r H1 (upd (upd H1 T (.tup [.int S.2.1, .int S.2.2])) r (.lst (us.map V.ref ++ [.ref T]))) := (Kp.new nT).trans Kp.at_
              refine Pd.app (Pd.kp kp (fun xs z => by rw [hr1] at z; cases z) pu) ⟨?_, trivial⟩
              rw [upd_ne (Ne.symm nrT), upd_same]
            · intro b o hb
              rw [upd_ne (ne_of_none hb nr), upd_ne (ne_of_none (s1 _ _ hb) nT)]
              exact s1 _ _ hb
end
/-! union -/
abbrev s_union : Stmt := topS 24
abbrev sc_union_N : List Str := ["spans", "ends", "span"]
theorem sc_union : FnScope sc_union_N ["spans", "ends"] (defScope s_union) := ⟨rfl, rfl, rfl, by decide +kernel, rfl, by decide +kernel, by decide +kernel⟩
def sp_union (K : PySem.W.Frag) : Sp := fun vs H Q _ => ∃ (a : Addr) (ts : List Addr) (ps : List Pr) (z : Bool), vs = [.ref a, endsV z] ∧ Sq K H a (ts.map V.ref) ∧ Pd H ts ps ∧ (∀ p ∈ ps, strP p = true) ∧ ps.length ≤ 1000 ∧ ∀ r us H', H r = none → H' r = some (.lst (us.map V.ref)) → Pd H' us (unionM z ps) → Same H H' → Q (.ref r) H'
section
variable {P : Program} {w : World} {K : PySem.W.Frag} {mg : Str → Option Value} {bh : Heap}
theorem ok_union {f : Addr} {fd : FuncData} {f_check_stretches : Addr} {fd_check_stretches : FuncData} {f_check_ends : Addr} {fd_check_ends : FuncData} {f_join_sorted : Addr} {fd_join_sorted : FuncData} {f_is_empty : Addr} {fd_is_empty : FuncData} (B : Blt mg) (T : Txt K mg) (R_check_stretches : Rdy P w K mg bh "check_stretches" 5 ["spans"] (sp_check_stretches K) f_check_stretches fd_check_stretches) (R_check_ends : Rdy P w K mg bh "check_ends" 1 ["ends"] (sp_check_ends K) f_check_ends fd_check_ends) (R_join_sorted : Rdy P w K mg bh "join_sorted" 1 ["spans"] (sp_join_sorted K) f_join_sorted fd_join_sorted) (R_is_empty : RdyD P w K mg bh "is_empty" 2 ["pair", "ends"] [.str "half"] (sp_is_empty K) f_is_empty fd_is_empty) (F : FunD K "union" "union" (defArgs s_union) (defBody s_union) (defScope s_union) [.str "half"] [] f fd) : FnOk P w K mg bh CX0 6 f fd ["spans", "ends"] (sp_union K) := by
  refine okD F sc_union (fun vs H Q E h => ?_) (fun cdv A outer s H vs Q E hr h => ?_)
  · obtain ⟨a, ts, ps, z, rfl, _⟩ := h
    rfl
  · obtain ⟨a, ts, ps, z, rfl, sq, pd, hst, hlen, q⟩ := h
    refine ⟨_, (pss_cons (ps_expr (pe_rdy R_check_stretches hr (by decide) (by rfl) (pa_cons (pv 0) pa_nil)))
      (pss_cons (ps_expr (pe_rdy R_check_ends hr (by decide) (by rfl) (pa_cons (pv 1) pa_nil)))
      (pss_one (ps_ret (pe_rdy R_join_sorted hr (by decide) (by rfl) (pa_cons (pe_callB cr_sortedPO (by rfl) B.b_sorted (by decide +kernel) (pa_cons (pe_lc (own := [("span", 2)]) (by rfl) sc_union.nd (pi_sq (pv 0)) (blkOk_by (own := [("span", 2)]) (N := sc_union_N) (sc := defScope s_union) (by decide +kernel)) (fun _ _ _ _ _ => (pg_name (i := 2) sc_union.nd rfl (Or.inl rfl))) (fun _ _ _ _ _ => (pts_one (pt_not (pt_val (pe_rdyD R_is_empty hr (by decide) (by rfl) (pa_cons (pv 2) (pa_cons (pv 1) pa_nil))))))) (fun _ _ _ _ _ => (pv 2))) pa_nil)) pa_nil)))))), ?_⟩
    refine ⟨_, rfl, a, _, _, rfl, sq, pd.dp, ?_, fun H1 s1 => ?_⟩
    · intro d hd
      obtain ⟨p, hp, rfl⟩ := List.mem_map.mp hd
      exact hst p hp
    refine ⟨_, rfl, z, rfl, fun H2 s2 => ?_⟩
    have s12 := s1.trans s2
    refine ⟨_, rfl, a, _, rfl, sameQ s12 sq, fun J wk D nD => ?_⟩
    refine lc_it wk (fun i H' => ∃ us, Same H2 H' ∧ H' D = some (.lst (us.map V.ref)) ∧ Pd H' us ((ps.take i).filter fun p => !emp z p)) ⟨[], Same.new nD, upd_same, trivial⟩ (fun i H' _ h => sameK h.choose_spec.1) ?_ ?_
    · rintro i x H3 H4 hi ⟨us, ss, hD, pu⟩ ⟨rfl, hx⟩
      obtain ⟨t, ht, rfl⟩ := map_get hx
      obtain ⟨p, hp, et⟩ := Pd.get pd ht
      have et3 := (s12.trans ss) _ _ et
      have lu := pu.len
      have lf : ((ps.take i).filter fun p => !emp z p).length ≤ ps.length := Nat.le_trans (List.length_filter_le ..) (List.length_take_le' ..)
      refine ⟨rfl, ?_⟩
      refine ⟨_, rfl, _, rfl, t, p.1, p.2, z, rfl, SqT.hp et3, fun H5 s5 => ⟨_, rfl, ?_⟩⟩
      have et5 := s5 _ _ et3
      rw [take_more hp, List.filter_append]
      refine ite2 (fun c => ?_) (fun c => ?_)
      · have nDt : D ≠ t := ne_of (s5 _ _ hD) et5 (fun z => nomatch z)
        refine ⟨_, rfl, us.map V.ref, s5 _ _ hD, ?_, us ++ [t], ?_, ?_, ?_⟩
        · rw [List.length_map]
          exact small1000 (by omega)
        · intro b o hb
          rw [upd_ne (ne_of_none hb nD)]
          exact s5 _ _ (ss _ _ hb)
        · rw [upd_same, List.map_append]; rfl
        · have kp : Kp D H5 (upd H5 D (.lst (us.map V.ref ++ [.ref t]))) := Kp.at_
          rw [show List.filter (fun p => !emp z p) [p] = [p] from List.filter_cons_of_pos (p := fun p => !emp z p) c]
          refine Pd.app (Pd.kp kp (fun xs z => by rw [s5 _ _ hD] at z; cases z) (pu.same s5)) ⟨?_, trivial⟩
          rw [upd_ne (Ne.symm nDt)]
          exact et5
      · rw [show List.filter (fun p => !emp z p) [p] = [] from List.filter_cons_of_neg (p := fun p => !emp z p) c, List.append_nil]
        exact ⟨us, ss.trans s5, s5 _ _ hD, pu.same s5⟩
    · rintro H3 ⟨us, ss, hD, pu⟩
      rw [List.length_map, pd.len, List.take_length] at pu
      refine ⟨D, _, kOf H3, rfl, SqL.hp hD, pu.all, fun ys m hs hb nm => ?_⟩
      obtain ⟨vs, rfl, pv'⟩ := sorted_refs pu hs hb
      have sm : Same H3 (upd H3 m (.lst (vs.map V.ref))) := Same.new nm
      have s3 := s12.trans ss
      refine ⟨m, vs, _, rfl, SqL.hp upd_same, pv'.same sm, ?_, fun r ws H5 nr hr5 pw s5 => ?_⟩
      · have : (srt (ps.filter fun p => !emp z p)).length ≤ ps.length := by
          rw [(srt_perm _).length_eq]
          exact List.length_filter_le ..
        omega
      · exact q r ws H5 ((s3.trans sm).free nr) hr5 pw ((s3.trans sm).trans s5)
end
/-! Span.__init__ -/
abbrev s_Span_init : Stmt := inClass (topS 30) 0
abbrev sc_Span_init_N : List Str := ["self", "begin", "end"]
theorem sc_Span_init : FnScope sc_Span_init_N ["self", "begin", "end"] (defScope s_Span_init) := ⟨rfl, rfl, rfl, by decide +kernel, rfl, by decide +kernel, by decide +kernel⟩
def sp_Span_init (K : PySem.W.Frag) (C : Addr) : Sp := fun vs H Q _ => ∃ (a dx : Addr) (p : Pr), vs = [.ref a, .int p.1, .int p.2] ∧ strP p = true ∧ H a = some (.ins C dx []) ∧ ∀ H', Kp a H H' → H' a = some (.ins C dx (spnFs p)) → Q .non H'
section
variable {P : Program} {w : World} {K : PySem.W.Frag} {mg : Str → Option Value} {bh : Heap}
theorem ok_Span_init {f : Addr} {fd : FuncData} {CS : Addr} {f_is_edge : Addr} {fd_is_edge : FuncData} {f_is_stretch : Addr} {fd_is_stretch : FuncData} (B : Blt mg) (T : Txt K mg) (SC : SpnC K CS) (R_is_edge : Rdy P w K mg bh "is_edge" 2 ["value"] (sp_is_edge K) f_is_edge fd_is_edge) (R_is_stretch : Rdy P w K mg bh "is_stretch" 4 ["value"] (sp_is_stretch K) f_is_stretch fd_is_stretch) (F : Fun K "__init__" "Span.__init__" s_Span_init f fd) : FnOk P w K mg bh CX0 5 f fd ["self", "begin", "end"] (sp_Span_init K CS) := by
  refine F.ok sc_Span_init (fun vs H Q E h => ?_) (fun cdv A outer s H vs Q E hr h => ?_)
  · obtain ⟨a, dx, p, rfl, _⟩ := h
    rfl
  · obtain ⟨a, dx, p, rfl, hp, ha, q⟩ := h
    refine ⟨_, (pss_cons (ps_if (pt_not (pt_val (pe_rdy R_is_edge hr (by decide) (by rfl) (pa_cons (pv 1) pa_nil))))
      (pss_one ps_never)
      pss_nil)
      (pss_cons (ps_if (pt_not (pt_val (pe_rdy R_is_edge hr (by decide) (by rfl) (pa_cons (pv 2) pa_nil))))
      (pss_one ps_never)
      pss_nil)
      (pss_cons (ps_if (pt_not (pt_val (pe_rdy R_is_stretch hr (by decide) (by rfl) (pa_cons (pe_tup (pa_cons (pv 1) (pa_cons (pv 2) pa_nil))) pa_nil))))
      (pss_one ps_never)
      pss_nil)
      (pss_cons (ps_fld (pv 0) (pv 1) rfl)
      (pss_one (ps_fld (pv 0) (pv 2) rfl)))))), ?_⟩
    obtain ⟨e1, e2⟩ := strP_isE hp
    refine ⟨_, rfl, _, _, rfl, .int p.1, fun H1 s1 => ⟨_, rfl, ?_⟩⟩
    rw [e1]
    refine iteF ?_
    refine ⟨_, rfl, _, _, rfl, .int p.2, fun H2 s2 => ⟨_, rfl, ?_⟩⟩
    rw [e2]
    refine iteF ?_
    refine ⟨_, rfl, _, rfl, (by show 2 ≤ sizeLine; decide), fun T nT => ?_⟩
    refine ⟨.ref T, prD p, rfl, dp_pr upd_same, fun H3 s3 => ⟨_, rfl, ?_⟩⟩
    rw [isStr_pr, hp]
    refine iteF ?_
    have s03 := ((s1.trans s2).trans (Same.new nT)).trans s3
    refine ⟨_, rfl, _, rfl, a, CS, dx, _, rfl, s03 _ _ ha, SC.cl, SC.nB, (by show 0 < 1000; decide), ?_⟩
    refine ⟨_, rfl, _, rfl, a, CS, dx, _, rfl, upd_same, SC.cl, SC.nE, (by show 1 < 1000; decide), ?_⟩
    refine q _ ?_ (by rw [upd_same, spn_put])
    intro b o hb e
    rw [upd_ne hb, upd_ne hb]
    exact s03 _ _ e
end
/-! Span.pair -/
abbrev s_Span_pair : Stmt := inClass (topS 30) 4
abbrev sc_Span_pair_N : List Str := ["self"]
theorem sc_Span_pair : FnScope sc_Span_pair_N ["self"] (defScope s_Span_pair) := ⟨rfl, rfl, rfl, by decide +kernel, rfl, by decide +kernel, by decide +kernel⟩
def sp_Span_pair (K : PySem.W.Frag) (C : Addr) : Sp := fun vs H Q _ => ∃ (a : Addr) (p : Pr), vs = [.ref a] ∧ IsSpn H C a p ∧ ∀ t, H t = none → Q (.ref t) (upd H t (.tup [.int p.1, .int p.2]))
section
variable {P : Program} {w : World} {K : PySem.W.Frag} {mg : Str → Option Value} {bh : Heap}
theorem ok_Span_pair {f : Addr} {fd : FuncData} {CS : Addr} (B : Blt mg) (T : Txt K mg) (SC : SpnC K CS) (F : Fun K "pair" "Span.pair" s_Span_pair f fd) : FnOk P w K mg bh CX0 1 f fd ["self"] (sp_Span_pair K CS) := by
  refine F.ok sc_Span_pair (fun vs H Q E h => ?_) (fun cdv A outer s H vs Q E hr h => ?_)
  · obtain ⟨a, p, rfl, _⟩ := h
    rfl
  · obtain ⟨a, p, rfl, ⟨dx, ha⟩, q⟩ := h
    refine ⟨_, (pss_one (ps_ret (pe_tup (pa_cons (pe_fld (pv 0) rfl) (pa_cons (pe_fld (pv 0) rfl) pa_nil))))), ?_⟩
    exact ⟨_, rfl, a, CS, dx, _, _, rfl, ha, SC.cl, SC.nB, spn_begin p, _, rfl, a, CS, dx, _, _, rfl, ha, SC.cl, SC.nE, spn_end p, (by show 2 ≤ sizeLine; decide), fun T nT => q T nT⟩
end
/-! Spread.__init__ -/
abbrev s_Spread_init : Stmt := inClass (topS 33) 0
abbrev sc_Spread_init_N : List Str := ["self", "spans", "index", "span"]
theorem sc_Spread_init : FnScope sc_Spread_init_N ["self", "spans"] (defScope s_Spread_init) := ⟨rfl, rfl, rfl, by decide +kernel, rfl, by decide +kernel, by decide +kernel⟩
def sp_Spread_init (K : PySem.W.Frag) (CS CD : Addr) : Sp := fun vs H Q _ => ∃ (a dx p : Addr) (ss : List Addr) (ps : List Pr), vs = [.ref a, .ref p] ∧ H a = some (.ins CD dx []) ∧ SqT K H p (ss.map V.ref) ∧ Spn H CS ss ps ∧ (∀ x ∈ ps, strP x = true) ∧ ps.length ≤ 1000 ∧ ∀ H', Kp a H H' → IsSpr H' CD a (unionM false ps) → Q .non H'
section
variable {P : Program} {w : World} {K : PySem.W.Frag} {mg : Str → Option Value} {bh : Heap}
theorem ok_Spread_init {f : Addr} {fd : FuncData} {CS CD p_pair f_pair : Addr} {fd_pair : FuncData} {f_union : Addr} {fd_union : FuncData} (B : Blt mg) (T : Txt K mg) (SC : SpnC K CS) (SD : SprC K CD) (gS : mg "Span" = some (.ref CS)) (RP : RdyPr P w K mg bh CS "pair" 1 (sp_Span_pair K CS) p_pair f_pair fd_pair) (R_union : RdyD P w K mg bh "union" 6 ["spans", "ends"] [.str "half"] (sp_union K) f_union fd_union) (F : Fun K "__init__" "Spread.__init__" s_Spread_init f fd) : FnR P w K mg bh CX0 7 f (spStar 1 (sp_Spread_init K CS CD)) := by
  refine okStar (ps := ["self"]) F sc_Spread_init (fun _ _ _ _ _ _ us rest hl => match us, rest, hl with | [_], [], _ => rfl | [_], _ :: _, _ => rfl) (fun cdv A outer s H vs Q E hr h => ?_)
  · obtain ⟨a, dx, p, ss, ps, rfl, ha, sq, sp, hst, hlen, q⟩ := h
    refine ⟨_, (pss_cons (ps_for PassesOwn.never rfl (pi_en (by rfl) B.b_enumerate (pa_cons (pv 1) pa_nil)) (pg_tup (by rfl) (pgs_cons (pg_name (i := 2) sc_Spread_init.nd rfl (Or.inl rfl)) (pgs_cons (pg_name (i := 3) sc_Spread_init.nd rfl (Or.inl rfl)) pgs_nil)))
      (pss_one (ps_if (pt_not (pt_val (pe_callB call_isi (by rfl) B.b_isinstance (by decide +kernel) (pa_cons (pv 3) (pa_cons (pe_glob (v := .ref CS) (by rfl) gS rfl) pa_nil)))))
      (pss_one ps_never)
      pss_nil)))
      (pss_one (ps_fld (pv 0) (pe_callTy call_tuple_of (by rfl) B.b_tuple (by decide +kernel) (pa_cons (pe_rdyD1 R_union hr (by decide) (by rfl) (pa_cons (pe_lc (own := [("span", 3)]) (by rfl) sc_Spread_init.nd (pi_sq (pv 1)) (blkOk_by (own := [("span", 3)]) (N := sc_Spread_init_N) (sc := defScope s_Spread_init) (by decide +kernel)) (fun _ _ _ _ _ => (pg_name (i := 3) sc_Spread_init.nd rfl (Or.inl rfl))) (fun _ _ _ _ _ => pts_nil) (fun _ _ _ _ _ => (pe_prop (pv 3) SC.cl RP.pr RP.ok (hr.mono (by decide)) RP.bd .nil pass0 (by rfl)))) pa_nil)) pa_nil)) rfl))), ?_⟩
    have lss := sp.len
    refine ⟨_, rfl, p, _, rfl, .inr sq, fun J wk => ?_⟩
    refine for_it wk (fun i σ H' => (∃ y z, σ = [some (.ref a), some (.ref p), y, z]) ∧ Same H H') ⟨⟨none, none, rfl⟩, Same.refl H⟩ (fun i σ H' _ h => sameK h.2) ?_ ?_
    · rintro i x σ H1 H2 hi ⟨⟨y, z, rfl⟩, s1⟩ ⟨U, x1, x2, rfl, hU, rfl, e1, e2⟩
      obtain ⟨s, hs, rfl⟩ := map_get e2
      obtain ⟨r, hr', ⟨dy, hsp⟩⟩ := sp.get hs
      have s2 : Same H (upd H1 U (.tup [x1, .ref s])) := s1.trans (Same.new hU)
      refine ⟨U, _, rfl, SqT.hp upd_same, rfl, x1, _, rfl, _, _, rfl, rfl, ?_⟩
      refine ⟨_, rfl, _, _, _, _, true, rfl, .own _, SC.ty (s2 _ _ hsp), SC.self, _, rfl, iteF ⟨⟨_, _, rfl⟩, s2⟩⟩
    · rintro σ H1 ⟨⟨y, z, rfl⟩, s1⟩
      refine ⟨_, rfl, p, _, rfl, .inr (sameT s1 sq), fun J wk D nD => ?_⟩
      refine lc_it wk (fun i H' => ∃ us, Same H1 H' ∧ H' D = some (.lst (us.map V.ref)) ∧ Pd H' us (ps.take i)) ⟨[], Same.new nD, upd_same, trivial⟩ (fun i H' _ h => sameK h.choose_spec.1) ?_ ?_
      · rintro i x H3 H4 hi ⟨us, ss, hD, pu⟩ ⟨rfl, hx⟩
        obtain ⟨s, hs, rfl⟩ := map_get hx
        obtain ⟨r, hp, ⟨dy, hsp⟩⟩ := sp.get hs
        have e3 := (s1.trans ss) _ _ hsp
        have lu := pu.len
        rw [List.length_take] at lu
        refine ⟨rfl, ?_⟩
        refine ⟨_, rfl, s, dy, _, rfl, e3, s, r, rfl, ⟨dy, e3⟩, fun U nU => ?_⟩
        obtain ⟨h2, h3⟩ := app_pair (x := r) hD pu nU
        refine ⟨us.map V.ref, (Same.new nU) _ _ hD, by rw [List.length_map]; exact small1000 (by omega), us ++ [U], ?_, ?_, ?_⟩
        · exact app_same ss nD nU
        · exact h2
        · rw [take_more hp]; exact h3
      · rintro H3 ⟨us, ss, hD, pu⟩
        rw [List.length_map, lss, List.take_length] at pu
        refine ⟨D, us, ps, false, rfl, .inl (SqL.hp hD), pu, hst, hlen, fun r vs H4 nr hr4 pd4 s4 => ?_⟩
        refine ⟨r, _, rfl, .inl ⟨SqL.hp hr4, fun l nl => ?_⟩⟩
        have s5 := ((s1.trans ss).trans s4).trans (Same.new (o := .tup (vs.map V.ref)) nl)
        have ha5 := s5 _ _ ha
        refine ⟨_, rfl, a, CD, dx, _, rfl, ha5, SD.cl, SD.nP, (by show 0 < 1000; decide), ?_⟩
        refine q _ (fun b o hb e => by rw [upd_ne hb]; exact s5 _ _ e) ⟨dx, l, vs, by rw [upd_same, spr_put], ?_, ?_⟩
        · rw [upd_ne (ne_of_none ((((s1.trans ss).trans s4)) _ _ ha) nl).symm, upd_same]
        · exact Pd.kp Kp.at_ (fun xs z => by rw [ha5] at z; cases z) (pd4.same (Same.new nl))
end
/-! Spread.of -/
abbrev s_Spread_of : Stmt := inClass (topS 33) 1
abbrev sc_Spread_of_N : List Str := ["spans", "made", "begin", "end"]
theorem sc_Spread_of : FnScope sc_Spread_of_N ["spans"] (defScope s_Spread_of) := ⟨rfl, rfl, rfl, by decide +kernel, rfl, by decide +kernel, by decide +kernel⟩
def sp_Spread_of (K : PySem.W.Frag) (CD : Addr) : Sp := fun vs H Q _ => ∃ (a : Addr) (ts : List Addr) (ps : List Pr), vs = [.ref a] ∧ Sq K H a (ts.map V.ref) ∧ Pd H ts ps ∧ (∀ x ∈ ps, strP x = true) ∧ ps.length ≤ 900 ∧ ∀ o H', H o = none → Same H H' → IsSpr H' CD o (unionM false ps) → Q (.ref o) H'
section
variable {P : Program} {w : World} {K : PySem.W.Frag} {mg : Str → Option Value} {bh : Heap}
theorem ok_Spread_of {f : Addr} {fd : FuncData} {CS CD f_si f_di : Addr} {fd_si : FuncData} {f_union : Addr} {fd_union : FuncData} (B : Blt mg) (T : Txt K mg) (RS : RdyMp P w K mg bh "Span" CS 5 ["self", "begin", "end"] (sp_Span_init K CS) f_si fd_si) (RM : RdyMs P w K mg bh "Spread" CD 7 (spStar 1 (sp_Spread_init K CS CD)) f_di) (R_union : RdyD P w K mg bh "union" 6 ["spans", "ends"] [.str "half"] (sp_union K) f_union fd_union) (F : Fun K "of" "Spread.of" s_Spread_of f fd) : FnOk P w K mg bh CX0 9 f fd ["spans"] (sp_Spread_of K CD) := by
  refine F.ok sc_Spread_of (fun vs H Q E h => ?_) (fun cdv A outer s H vs Q E hr h => ?_)
  · obtain ⟨a, ts, ps, rfl, _⟩ := h
    rfl
  · obtain ⟨a, ts, ps, rfl, sq, pd, hst, hlen, q⟩ := h
    refine ⟨_, (pss_cons (ps_setLc (i := 1) (own := [("begin", 2), ("end", 3)]) (g := (gTup K 2 (gCons (gName 2) (gCons (gName 3) gNil)))) (by rfl) sc_Spread_of.nd rfl rfl (sw_true rfl rfl rfl (by decide +kernel)) (pi_sq (pe_rdyD1 R_union hr (by decide) (by rfl) (pa_cons (pv 0) pa_nil))) (blkOk_by (own := [("begin", 2), ("end", 3)]) (N := sc_Spread_of_N) (sc := defScope s_Spread_of) (by decide +kernel)) (fun _ _ _ _ _ => (pg_tup (by rfl) (pgs_cons (pg_name (i := 2) sc_Spread_of.nd rfl (Or.inl rfl)) (pgs_cons (pg_name (i := 3) sc_Spread_of.nd rfl (Or.inl rfl)) pgs_nil)))) (fun _ _ _ _ _ => pts_nil) (fun _ _ _ _ _ => (pe_rdyMp RS hr (by decide) (by rfl) (pa_cons (pv 2) (pa_cons (pv 3) pa_nil)))))
      (pss_one (ps_ret (pe_rdyMs RM hr (by decide) (by rfl) (pv 1))))), ?_⟩
    refine ⟨_, rfl, a, ts, ps, false, rfl, sq, pd, hst, by omega, fun r us H1 nr hr1 pd1 s1 => ?_⟩
    have hu := union_edges hst
    have ul := union_len false ps
    have lus := pd1.len
    refine ⟨r, _, rfl, .inl (SqL.hp hr1), fun J wk D nD => ?_⟩
    refine lc_it wk (fun i H' => ∃ ss, Same H1 H' ∧ H' D = some (.lst (ss.map V.ref)) ∧ Spn H' CS ss ((unionM false ps).take i)) ⟨[], Same.new nD, upd_same, trivial⟩ (fun i H' _ h => sameK h.choose_spec.1) ?_ ?_
    · rintro i x H3 H4 hi ⟨ss, se, hD, pu⟩ ⟨rfl, hx⟩
      obtain ⟨t, ht, rfl⟩ := map_get hx
      obtain ⟨p, hp, et0⟩ := pd1.get ht
      have et := se _ _ et0
      have pin := List.mem_of_getElem? hp
      have lss := pu.len
      rw [List.length_take] at lss
      refine ⟨t, _, rfl, SqT.hp et, rfl, _, _, rfl, _, _, rfl, rfl, rfl, ?_⟩
      refine ⟨_, rfl, _, rfl, fun x dx nx ndx ne => ?_⟩
      refine ⟨x, dx, p, rfl, (hu p pin).1, upd_same, fun H5 k5 h5 => ⟨rfl, ?_⟩⟩
      have s5 : Same H4 H5 := fun b o e => k5 b o (ne_of_none e nx) (by rw [upd_ne (ne_of_none e nx), upd_ne (ne_of_none e ndx)]; exact e)
      have hD5 := s5 _ _ hD
      refine ⟨ss.map V.ref, hD5, by rw [List.length_map]; exact small1000 (by omega), ss ++ [x], ?_, ?_, ?_⟩
      · intro b o e
        rw [upd_ne (ne_of_none e nD)]
        exact s5 _ _ (se _ _ e)
      · rw [upd_same, List.map_append]; rfl
      · rw [take_more hp]
        refine Spn.kp Kp.at_ (fun _ _ _ z => by rw [hD5] at z; cases z) (Spn.app (pu.same s5) ⟨⟨dx, h5⟩, trivial⟩)
    · rintro H3 ⟨ss, se, hD, pu⟩
      rw [List.length_map, lus, List.take_length] at pu
      have lss := pu.len
      refine ⟨_, rfl, D, _, rfl, .inr (SqL.hp hD), fun x dx nx ndx ne => ?_⟩
      refine ⟨[.ref x], ss.map V.ref, rfl, rfl, by rw [List.length_map]; exact Nat.le_of_lt (small1000 (by omega)), fun p np => ?_⟩
      have nex : p ≠ x := fun z => by rw [z, upd_same] at np; cases np
      have s3 : Same H3 (upd (upd (upd H3 dx (.own x)) x (.ins CD dx [])) p (.tup (ss.map V.ref))) := fun b o e => by
        have e1 : upd (upd H3 dx (.own x)) x (.ins CD dx []) b = some o := by rw [upd_ne (ne_of_none e nx), upd_ne (ne_of_none e ndx)]; exact e
        rw [upd_ne (ne_of_none e1 np)]
        exact e1
      refine ⟨x, dx, p, ss, unionM false ps, rfl, by rw [upd_ne nex.symm, upd_same], SqT.hp upd_same, pu.same s3, fun y hy => (hu y hy).1, by omega, fun H5 k5 is5 => ⟨rfl, ?_⟩⟩
      have sA := s1.trans se
      rw [union_union] at is5
      exact q x H5 (sA.free nx) (fun b o e => k5 b o (ne_of_none (sA _ _ e) nx) (s3 _ _ (sA _ _ e))) is5
end
/-! Spread.next_in -/
abbrev s_Spread_next_in : Stmt := inClass (topS 33) 4
abbrev sc_Spread_next_in_N : List Str := ["self", "moment", "begin", "end"]
theorem sc_Spread_next_in : FnScope sc_Spread_next_in_N ["self", "moment"] (defScope s_Spread_next_in) := ⟨rfl, rfl, rfl, by decide +kernel, rfl, by decide +kernel, by decide +kernel⟩
def sp_next_in (K : PySem.W.Frag) (CD CM : Addr) : Sp := fun vs H Q E => ∃ (o : Addr) (v : V) (d : PyData) (us : List Pr), vs = [.ref o, v] ∧ Dp K H v d ∧ IsSpr H CD o us ∧ (isMom d = false → ∀ dd, H dd = none → E (.ref CM) (some dd) (upd H dd (.xd [(("moment" : Str), v)]))) ∧ (∀ m, d = .int m → isMom d = true → Q (optV (nextIn us m)) H)
section
variable {P : Program} {w : World} {K : PySem.W.Frag} {mg : Str → Option Value} {bh : Heap}
theorem ok_Spread_next_in {f : Addr} {fd : FuncData} {CD : Addr} {C_BadMoment : Addr} {f_check_moment : Addr} {fd_check_moment : FuncData} (B : Blt mg) (T : Txt K mg) (SD : SprC K CD) (R_check_moment : RdyX P w K mg bh "check_moment" 3 ["moment"] (sp_check_moment K C_BadMoment) f_check_moment fd_check_moment) (F : Fun K "next_in" "Spread.next_in" s_Spread_next_in f fd) : FnOk P w K mg bh (L2.CX P w) 5 f fd ["self", "moment"] (sp_next_in K CD C_BadMoment) := by
  refine F.okX sc_Spread_next_in (fun vs H Q E h => ?_) (fun cdv A outer s H vs Q E hr h => ?_)
  · obtain ⟨o, v, d, us, rfl, _⟩ := h
    rfl
  · obtain ⟨o, v, d, us, rfl, dv, ⟨dx, t, ts, ho, ht, pd⟩, qe, q⟩ := h
    refine ⟨_, (pss_cons (ps_expr (pe_rdyX R_check_moment hr (by decide) (by rfl) (takes_of rfl rfl rfl rfl) (pa_cons (pv 1) pa_nil)))
      (pss_cons (ps_for (passes_of rfl) rfl (pi_sq (pe_fld (pv 0) rfl)) (pg_tup (by rfl) (pgs_cons (pg_name (i := 2) sc_Spread_next_in.nd rfl (Or.inl rfl)) (pgs_cons (pg_name (i := 3) sc_Spread_next_in.nd rfl (Or.inl rfl)) pgs_nil)))
      (pss_one (ps_if (pt_cmpR op_lt (pv 1) (pv 3) (nomark _))
      (pss_one (ps_ret (pe_callB (call_max2 rfl) (by rfl) B.b_max (by decide +kernel) (pa_cons (pv 2) (pa_cons (pv 1) pa_nil)))))
      pss_nil)))
      (pss_one (ps_ret pe_non)))), ?_⟩
    refine ⟨_, rfl, v, d, rfl, dv, fun hm => ?_, qe⟩
    obtain ⟨m, rfl, rfl⟩ := mom_of dv hm
    refine ⟨_, rfl, o, CD, dx, _, _, rfl, ho, SD.cl, SD.nP, spr_pairs t, t, _, rfl, .inr (SqT.hp ht), fun J wk => ?_⟩
    have lts := pd.len
    refine for_it wk (fun i σ H' => (∃ y z, σ = [some (.ref o), some (.int m), y, z]) ∧ H' = H ∧ ∀ p ∈ us.take i, decide (m < p.2) = false) ⟨⟨none, none, rfl⟩, rfl, fun _ h => absurd h List.not_mem_nil⟩ (fun i σ H' _ h => by rw [h.2.1]; exact sameK (Same.refl H)) ?_ ?_
    · rintro i x σ H1 H2 hi ⟨⟨y, z, rfl⟩, e0, no⟩ ⟨rfl, hx⟩
      subst e0
      obtain ⟨u, hu, rfl⟩ := map_get hx
      obtain ⟨p, hp, et⟩ := pd.get hu
      refine ⟨u, _, rfl, SqT.hp et, rfl, _, _, rfl, _, _, rfl, rfl, ?_⟩
      refine ⟨_, rfl, _, rfl, _, _, rfl, rfl, _, rfl, ?_⟩
      refine ite2 (fun c => ?_) (fun c => ⟨⟨_, _, rfl⟩, rfl, take_step (R := fun p => decide (m < p.2) = false) hp no (Bool.eq_false_iff.mpr c)⟩)
      refine ⟨_, rfl, _, rfl, _, _, rfl, ?_⟩
      rw [mxE]
      have e := q m rfl hm
      rw [show nextIn us m = some (mx p.1 m) by unfold nextIn; rw [find_at (P := fun p : Pr => decide (m < p.2)) hp c no]; rfl] at e
      exact e
    · rintro σ H1 ⟨⟨y, z, rfl⟩, e0, no⟩
      subst e0
      rw [List.length_map, lts, List.take_length] at no
      have e := q m rfl hm
      rw [show nextIn us m = none by unfold nextIn; rw [find_no (P := fun p : Pr => decide (m < p.2)) no]; rfl] at e
      exact e
end
/-! Spread.next_out -/
abbrev s_Spread_next_out : Stmt := inClass (topS 33) 5
abbrev sc_Spread_next_out_N : List Str := ["self", "moment", "begin", "end"]
theorem sc_Spread_next_out : FnScope sc_Spread_next_out_N ["self", "moment"] (defScope s_Spread_next_out) := ⟨rfl, rfl, rfl, by decide +kernel, rfl, by decide +kernel, by decide +kernel⟩
def sp_next_out (K : PySem.W.Frag) (CD CM : Addr) : Sp := fun vs H Q E => ∃ (o : Addr) (v : V) (d : PyData) (us : List Pr), vs = [.ref o, v] ∧ Dp K H v d ∧ IsSpr H CD o us ∧ (isMom d = false → ∀ dd, H dd = none → E (.ref CM) (some dd) (upd H dd (.xd [(("moment" : Str), v)]))) ∧ (∀ m, d = .int m → isMom d = true → Q (optV (nextOut us m)) H)
section
variable {P : Program} {w : World} {K : PySem.W.Frag} {mg : Str → Option Value} {bh : Heap}
theorem ok_Spread_next_out {f : Addr} {fd : FuncData} {CD : Addr} {C_BadMoment : Addr} {f_check_moment : Addr} {fd_check_moment : FuncData} (B : Blt mg) (T : Txt K mg) (SD : SprC K CD) (R_check_moment : RdyX P w K mg bh "check_moment" 3 ["moment"] (sp_check_moment K C_BadMoment) f_check_moment fd_check_moment) (F : Fun K "next_out" "Spread.next_out" s_Spread_next_out f fd) : FnOk P w K mg bh (L2.CX P w) 5 f fd ["self", "moment"] (sp_next_out K CD C_BadMoment) := by
  refine F.okX sc_Spread_next_out (fun vs H Q E h => ?_) (fun cdv A outer s H vs Q E hr h => ?_)
  · obtain ⟨o, v, d, us, rfl, _⟩ := h
    rfl
  · obtain ⟨o, v, d, us, rfl, dv, ⟨dx, t, ts, ho, ht, pd⟩, qe, q⟩ := h
    refine ⟨_, (pss_cons (ps_expr (pe_rdyX R_check_moment hr (by decide) (by rfl) (takes_of rfl rfl rfl rfl) (pa_cons (pv 1) pa_nil)))
      (pss_cons (ps_for (passes_of rfl) rfl (pi_sq (pe_fld (pv 0) rfl)) (pg_tup (by rfl) (pgs_cons (pg_name (i := 2) sc_Spread_next_out.nd rfl (Or.inl rfl)) (pgs_cons (pg_name (i := 3) sc_Spread_next_out.nd rfl (Or.inl rfl)) pgs_nil)))
      (pss_one (ps_if (pt_chain op_le op_lt (pv 2) (pv 1) (pv 3))
      (pss_one (ps_ret (pe_ifExp (pt_cmpR op_eq (pv 3) (pe_globI T.g_LAST (by rfl)) (nomark _)) pe_non (pv 3))))
      pss_nil)))
      (pss_one (ps_ret (pv 1))))), ?_⟩
    refine ⟨_, rfl, v, d, rfl, dv, fun hm => ?_, qe⟩
    obtain ⟨m, rfl, rfl⟩ := mom_of dv hm
    refine ⟨_, rfl, o, CD, dx, _, _, rfl, ho, SD.cl, SD.nP, spr_pairs t, t, _, rfl, .inr (SqT.hp ht), fun J wk => ?_⟩
    have lts := pd.len
    refine for_it wk (fun i σ H' => (∃ y z, σ = [some (.ref o), some (.int m), y, z]) ∧ H' = H ∧ ∀ p ∈ us.take i, (decide (p.1 ≤ m) && decide (m < p.2)) = false) ⟨⟨none, none, rfl⟩, rfl, fun _ h => absurd h List.not_mem_nil⟩ (fun i σ H' _ h => by rw [h.2.1]; exact sameK (Same.refl H)) ?_ ?_
    · rintro i x σ H1 H2 hi ⟨⟨y, z, rfl⟩, e0, no⟩ ⟨rfl, hx⟩
      subst e0
      obtain ⟨u, hu, rfl⟩ := map_get hx
      obtain ⟨p, hp, et⟩ := pd.get hu
      have on : (decide (p.1 ≤ m) && decide (m < p.2)) = false → (∃ y z, ([some (.ref o), some (.int m), some (.int p.1), some (.int p.2)] : List (Option V)) = [some (.ref o), some (.int m), y, z]) ∧ H2 = H2 ∧ ∀ p ∈ us.take (i + 1), (decide (p.1 ≤ m) && decide (m < p.2)) = false := fun c =>
        ⟨⟨_, _, rfl⟩, rfl, take_step (R := fun p => (decide (p.1 ≤ m) && decide (m < p.2)) = false) hp no c⟩
      refine ⟨u, _, rfl, SqT.hp et, rfl, _, _, rfl, _, _, rfl, rfl, ?_⟩
      refine ⟨_, rfl, _, rfl, _, _, rfl, rfl, _, rfl, ?_⟩
      refine ite2 (fun c1 => ?_) (fun c1 => ⟨_, rfl, iteF (on (by rw [Bool.eq_false_iff.mpr c1]; rfl))⟩)
      refine ⟨_, rfl, _, _, rfl, rfl, _, rfl, ?_⟩
      refine ite2 (fun c2 => ?_) (fun c2 => on (by rw [Bool.eq_false_iff.mpr c2, Bool.and_false]))
      have e := q m rfl hm
      rw [show nextOut us m = if p.2 = 10000000000000000000000000000000 then none else some p.2 by unfold nextOut; rw [find_at (P := fun p : Pr => decide (p.1 ≤ m) && decide (m < p.2)) hp (by rw [c1, c2]; rfl) no]] at e
      refine ⟨_, rfl, rfl, _, rfl, ?_⟩
      refine ite2 (fun c => ?_) (fun c => ⟨_, rfl, ?_⟩)
      · have c : p.2 = 10000000000000000000000000000000 := V.int.inj (of_decide_eq_true c)
        rw [if_pos c] at e
        exact e
      · have c : ¬ p.2 = 10000000000000000000000000000000 := fun h => c (decide_eq_true (congrArg V.int h))
        rw [if_neg c] at e
        exact e
    · rintro σ H1 ⟨⟨y, z, rfl⟩, e0, no⟩
      subst e0
      rw [List.length_map, lts, List.take_length] at no
      have e := q m rfl hm
      rw [show nextOut us m = some m by unfold nextOut; rw [find_no (P := fun p : Pr => decide (p.1 ≤ m) && decide (m < p.2)) no]] at e
      exact ⟨_, rfl, e⟩
end
/-! _law_bag -/
abbrev s_l_bag : Stmt := topS 36
abbrev sc_l_bag_N : List Str := ["_law_script", "_law_at", "_law_cell"]
theorem sc_l_bag : FnScope sc_l_bag_N ["_law_script", "_law_at"] (defScope s_l_bag) := ⟨rfl, rfl, rfl, by decide +kernel, rfl, by decide +kernel, by decide +kernel⟩
def sp_l_bag (K : PySem.W.Frag) : Sp := fun vs H Q _ => ∃ (a : Addr) (ns : List Int) (i : Int), vs = [.ref a, .int i] ∧ SqL K H a (ns.map V.int) ∧ 0 ≤ i ∧ i ≤ 63 ∧ ∀ p H', H p = none → BagAt H' p 0 → But p H H' → Q (.ref p) H'
section
variable {P : Program} {w : World} {K : PySem.W.Frag} {mg : Str → Option Value} {bh : Heap}
theorem ok_l_bag {f : Addr} {fd : FuncData}  (B : Blt mg) (T : Txt K mg)  (F : Fun K "_law_bag" "_law_bag" s_l_bag f fd) : FnOk P w K mg bh CX0 1 f fd ["_law_script", "_law_at"] (sp_l_bag K) := by
  refine F.ok sc_l_bag (fun vs H Q E h => ?_) (fun cdv A outer s H vs Q E hr h => ?_)
  · obtain ⟨a, ns, i, rfl, _⟩ := h
    rfl
  · obtain ⟨a, ns, i, rfl, sq, i0, i63, q⟩ := h
    refine ⟨_, (pss_cons (ps_set (i := 2) sc_l_bag.nd rfl (Or.inl rfl) (pe_ifExp (pt_cmpR op_lt (pv 1) (pe_callB call_len_seq (by rfl) B.b_len (by decide +kernel) (pa_cons (pv 0) pa_nil)) (nomark _)) (pe_ix ix_list (pv 0) (pv 1) (fun _ _ => rfl)) pe_int))
      (pss_one (ps_ret (pe_lst (pa_cons (pe_ifExp (pt_cmpR op_ge (pe_callB call_abs (by rfl) B.b_abs (by decide +kernel) (pa_cons (pv 2) pa_nil)) (pe_op op_pow pe_int pe_int) (nomark _)) (pe_callB call_abs (by rfl) B.b_abs (by decide +kernel) (pa_cons (pv 2) pa_nil)) pe_int) (pa_cons (pe_op op_mod (pe_callTy call_int1 (by rfl) B.b_int (by decide +kernel) (pa_cons (pv 2) pa_nil)) pe_int) (pa_cons (pe_op op_add (pe_op op_mul pe_int (pv 1)) pe_int) (pa_cons pe_int pa_nil)))))))), ?_⟩
    refine ⟨_, rfl, _, rfl, a, _, rfl, .inl sq, _, _, rfl, rfl, _, rfl, ?_⟩
    have fin : ∀ (n b0 : Int) (p : Addr), 0 ≤ b0 → H p = none → Q (.ref p) (upd H p (.lst [.int b0, .int (n % 2305843009213693951), .int (6151 * i + 389), .int 0])) := fun n b0 p h0 np =>
      q p _ np ⟨b0, n % 2305843009213693951, 6151 * i + 389, 0, upd_same, h0, by omega, by omega, by omega, by omega, by omega, by omega⟩ fun b nb => upd_ne nb
    have ab : ∀ n : Int, 0 ≤ (if n < 0 then -n else n) := fun n => by split <;> omega
    refine ite2 (fun c => ?_) (fun c => ?_)
    · have ci : i < (ns.map V.int).length := of_decide_eq_true c
      obtain ⟨n, hn⟩ : ∃ n, (ns.map V.int)[i.toNat]? = some (.int n) := by
        rw [List.length_map] at ci
        have : i.toNat < ns.length := by omega
        exact ⟨ns[i.toNat], by rw [List.getElem?_map, List.getElem?_eq_getElem this]; rfl⟩
      refine ⟨_, rfl, _, rfl, a, _, i, .int n, rfl, rfl, sq, at_of (by omega) hn, ?_⟩
      walk_at "vc"
      · intro p np
        exact fin n _ p (ab n) np
      · intro p np
        exact fin n _ p (Int.le_refl 0) np
    · walk_at "vc"
      all_goals (intro p np; first | exact fin 0 _ p (ab 0) np | exact fin 0 _ p (Int.le_refl 0) np)
end
/-! _law_take -/
abbrev s_l_take : Stmt := topS 37
abbrev sc_l_take_N : List Str := ["_law_bag_here", "_law_many", "_law_digit", "_law_mixed"]
theorem sc_l_take : FnScope sc_l_take_N ["_law_bag_here", "_law_many"] (defScope s_l_take) := ⟨rfl, rfl, rfl, by decide +kernel, rfl, by decide +kernel, by decide +kernel⟩
def sp_l_take (K : PySem.W.Frag) : Sp := fun vs H Q _ => ∃ (p : Addr) (m c : Int), vs = [.ref p, .int m] ∧ BagAt H p c ∧ c ≤ 1073741824 ∧ 0 < m ∧ m ≤ 1000000000000000000000000000000000000000000000 ∧ ∀ r H', 0 ≤ r → r < m → BagAt H' p (c + 1) → But p H H' → Q (.int r) H'
section
variable {P : Program} {w : World} {K : PySem.W.Frag} {mg : Str → Option Value} {bh : Heap}
theorem ok_l_take {f : Addr} {fd : FuncData}  (B : Blt mg) (T : Txt K mg)  (F : Fun K "_law_take" "_law_take" s_l_take f fd) : FnOk P w K mg bh CX0 1 f fd ["_law_bag_here", "_law_many"] (sp_l_take K) := by
  refine F.ok sc_l_take (fun vs H Q E h => ?_) (fun cdv A outer s H vs Q E hr h => ?_)
  · obtain ⟨p, m, c, rfl, _⟩ := h
    rfl
  · obtain ⟨p, m, c, rfl, ⟨b0, b1, b2, b3, hp, h0, h1, h1', h2, h2', h3, h3'⟩, hc, hm, hm', q⟩ := h
    refine ⟨_, (pss_cons (ps_if (pt_cmpR op_gt (pe_ix ix_list (pv 0) pe_int (fun _ _ => rfl)) pe_int (nomark _))
      (pss_cons (ps_set (i := 2) sc_l_take.nd rfl (Or.inl rfl) (pe_op op_mod (pe_callTy call_int1 (by rfl) B.b_int (by decide +kernel) (pa_cons (pe_ix ix_list (pv 0) pe_int (fun _ _ => rfl)) pa_nil)) (pv 1)))
      (pss_cons (ps_asg (pe_op op_fdivW (pe_ix ix_list (pv 0) pe_int (fun _ _ => rfl)) (pv 1)) (pg_sub (pv 0) pe_int set_list))
      (pss_one (ps_ret (pv 2)))))
      pss_nil)
      (pss_cons (ps_asg (pe_op op_add (pe_ix ix_list (pv 0) pe_int (fun _ _ => rfl)) pe_int) (pg_sub (pv 0) pe_int set_list))
      (pss_cons (ps_set (i := 3) sc_l_take.nd rfl (Or.inl rfl) (pe_op op_mod (pe_callTy call_int1 (by rfl) B.b_int (by decide +kernel) (pa_cons (pe_op op_pow (pe_op op_add (pe_op op_add (pe_ix ix_list (pv 0) pe_int (fun _ _ => rfl)) (pe_op op_mul pe_int (pe_ix ix_list (pv 0) pe_int (fun _ _ => rfl)))) (pe_ix ix_list (pv 0) pe_int (fun _ _ => rfl))) pe_int) pa_nil)) pe_int))
      (pss_cons (ps_set (i := 3) sc_l_take.nd rfl (Or.inl rfl) (pe_op op_mod (pe_callTy call_int1 (by rfl) B.b_int (by decide +kernel) (pa_cons (pe_op op_pow (pe_op op_add (pv 3) (pe_op op_mul pe_int (pe_ix ix_list (pv 0) pe_int (fun _ _ => rfl)))) pe_int) pa_nil)) pe_int))
      (pss_one (ps_ret (pe_op op_mod (pe_callTy call_int1 (by rfl) B.b_int (by decide +kernel) (pa_cons (pe_op op_fdivW (pv 3) pe_int) pa_nil)) (pv 1)))))))), ?_⟩
    walk_at "vc"
    · exact q _ _ (Int.emod_nonneg _ (by omega)) (Int.emod_lt_of_pos _ hm) ⟨_, b1, b2, b3, upd_same, Int.ediv_nonneg h0 (by omega), h1, h1', h2, h2', h3, by omega⟩ fun b n => upd_ne n
    · exact q _ _ (Int.emod_nonneg _ (by omega)) (Int.emod_lt_of_pos _ hm) ⟨b0, b1, b2, _, upd_same, h0, h1, h1', h2, h2', by omega, by omega⟩ fun b n => upd_ne n
end
/-! _law_edge -/
abbrev s_l_edge : Stmt := topS 38
abbrev sc_l_edge_N : List Str := ["_law_bag_here", "_law_kind"]
theorem sc_l_edge : FnScope sc_l_edge_N ["_law_bag_here"] (defScope s_l_edge) := ⟨rfl, rfl, rfl, by decide +kernel, rfl, by decide +kernel, by decide +kernel⟩
def sp_l_edge (K : PySem.W.Frag) : Sp := fun vs H Q _ => ∃ (p : Addr) (c : Int), vs = [.ref p] ∧ BagAt H p c ∧ c ≤ 1000000 ∧ ∀ r H', -1000000000000000000000000000000 ≤ r → r ≤ 1000000000000000000000000000000 → BagAt H' p (c + 3) → But p H H' → Q (.int r) H'
section
variable {P : Program} {w : World} {K : PySem.W.Frag} {mg : Str → Option Value} {bh : Heap}
theorem ok_l_edge {f : Addr} {fd : FuncData} {f_l_take : Addr} {fd_l_take : FuncData} (B : Blt mg) (T : Txt K mg) (R_l_take : Rdy P w K mg bh "_law_take" 1 ["_law_bag_here", "_law_many"] (sp_l_take K) f_l_take fd_l_take) (F : Fun K "_law_edge" "_law_edge" s_l_edge f fd) : FnOk P w K mg bh CX0 2 f fd ["_law_bag_here"] (sp_l_edge K) := by
  refine F.ok sc_l_edge (fun vs H Q E h => ?_) (fun cdv A outer s H vs Q E hr h => ?_)
  · obtain ⟨p, c, rfl, _⟩ := h
    rfl
  · obtain ⟨p, c, rfl, bg, hc, q⟩ := h
    refine ⟨_, (pss_cons (ps_set (i := 1) sc_l_edge.nd rfl (Or.inl rfl) (pe_rdy R_l_take hr (by decide) (by rfl) (pa_cons (pv 0) (pa_cons pe_int pa_nil))))
      (pss_cons (ps_if (pt_cmpR op_eq (pv 1) pe_int (nomark _))
      (pss_one (ps_ret (pe_op op_sub (pe_rdy R_l_take hr (by decide) (by rfl) (pa_cons (pv 0) (pa_cons (pe_op op_add (pe_op op_mul pe_int (pe_op op_pow pe_int pe_int)) pe_int) pa_nil))) (pe_op op_pow pe_int pe_int))))
      pss_nil)
      (pss_cons (ps_if (pt_cmpR op_eq (pv 1) pe_int (nomark _))
      (pss_one (ps_ret (pe_op op_mul (pe_op op_sub (pe_op op_pow pe_int pe_int) (pe_rdy R_l_take hr (by decide) (by rfl) (pa_cons (pv 0) (pa_cons pe_int pa_nil)))) (pe_op op_sub pe_int (pe_op op_mul pe_int (pe_rdy R_l_take hr (by decide) (by rfl) (pa_cons (pv 0) (pa_cons pe_int pa_nil))))))))
      pss_nil)
      (pss_one (ps_ret (pe_op op_sub (pe_rdy R_l_take hr (by decide) (by rfl) (pa_cons (pv 0) (pa_cons pe_int pa_nil))) pe_int)))))), ?_⟩
    refine ⟨_, rfl, p, 8, _, rfl, bg, by omega, by omega, by omega, fun k H1 k0 k1 bg1 bt1 => ?_⟩
    refine ⟨_, rfl, rfl, _, rfl, ?_⟩
    refine ite2 (fun c1 => ?_) (fun c1 => ?_)
    · refine ⟨_, rfl, _, _, rfl, rfl, ⟨by decide, by decide, by decide⟩, _, _, rfl, rfl, .inl ⟨by decide, by decide⟩, _, _, rfl, rfl, p, 2000000000000000000000000000001, _, rfl, bg1, by omega, by omega, by omega, fun r H2 r0 r1 bg2 bt2 => ⟨_, _, rfl, rfl, ⟨by decide, by decide, by decide⟩, _, _, rfl, rfl, ?_⟩⟩
      exact q (r - 1000000000000000000000000000000) H2 (by omega) (by omega) (bg2.mono (by omega)) (bt1.trans bt2)
    · refine ⟨_, rfl, rfl, _, rfl, ?_⟩
      refine ite2 (fun c2 => ?_) (fun c2 => ?_)
      · refine ⟨_, _, rfl, rfl, ⟨by decide, by decide, by decide⟩, _, rfl, p, 3, _, rfl, bg1, by omega, by omega, by omega, fun a H2 a0 a1 bg2 bt2 => ⟨_, _, rfl, rfl, ?_⟩⟩
        refine ⟨_, rfl, p, 2, _, rfl, bg2, by omega, by omega, by omega, fun b H3 b0 b1 bg3 bt3 => ⟨_, _, rfl, rfl, .inl ⟨by decide, by decide⟩, _, _, rfl, rfl, _, _, rfl, rfl, .inr ⟨by omega, by omega⟩, ?_⟩⟩
        refine q ((1000000000000000000000000000000 - a) * (1 - 2 * b)) H3 ?_ ?_ (bg3.mono (by omega)) ((bt1.trans bt2).trans bt3)
        · have : b = 0 ∨ b = 1 := by omega
          rcases this with h | h <;> subst h <;> omega
        · have : b = 0 ∨ b = 1 := by omega
          rcases this with h | h <;> subst h <;> omega
      · refine ⟨_, rfl, p, 15, _, rfl, bg1, by omega, by omega, by omega, fun r H2 r0 r1 bg2 bt2 => ⟨_, _, rfl, rfl, ?_⟩⟩
        exact q (r - 7) H2 (by omega) (by omega) (bg2.mono (by omega)) (bt1.trans bt2)
end
/-! _law_stretch -/
abbrev s_l_stretch : Stmt := topS 39
abbrev sc_l_stretch_N : List Str := ["_law_bag_here", "_law_one", "_law_other", "_law_begin", "_law_end", "_law_kind"]
theorem sc_l_stretch : FnScope sc_l_stretch_N ["_law_bag_here"] (defScope s_l_stretch) := ⟨rfl, rfl, rfl, by decide +kernel, rfl, by decide +kernel, by decide +kernel⟩
def sp_l_stretch (K : PySem.W.Frag) : Sp := fun vs H Q _ => ∃ (p : Addr) (c : Int), vs = [.ref p] ∧ BagAt H p c ∧ c ≤ 900000 ∧ ∀ t b e H', H t = none → H' t = some (.tup [.int b, .int e]) → strP (b, e) = true → BagAt H' p (c + 8) → Kp p H H' → Q (.ref t) H'
section
variable {P : Program} {w : World} {K : PySem.W.Frag} {mg : Str → Option Value} {bh : Heap}
theorem ok_l_stretch {f : Addr} {fd : FuncData} {f_l_take : Addr} {fd_l_take : FuncData} {f_l_edge : Addr} {fd_l_edge : FuncData} (B : Blt mg) (T : Txt K mg) (R_l_take : Rdy P w K mg bh "_law_take" 1 ["_law_bag_here", "_law_many"] (sp_l_take K) f_l_take fd_l_take) (R_l_edge : Rdy P w K mg bh "_law_edge" 2 ["_law_bag_here"] (sp_l_edge K) f_l_edge fd_l_edge) (F : Fun K "_law_stretch" "_law_stretch" s_l_stretch f fd) : FnOk P w K mg bh CX0 3 f fd ["_law_bag_here"] (sp_l_stretch K) := by
  refine F.ok sc_l_stretch (fun vs H Q E h => ?_) (fun cdv A outer s H vs Q E hr h => ?_)
  · obtain ⟨p, c, rfl, _⟩ := h
    rfl
  · obtain ⟨p, c, rfl, bg, hc, q⟩ := h
    refine ⟨_, (pss_cons (ps_par (i := 1) (j := 2) (by rfl) sc_l_stretch.nd rfl rfl (by decide) rfl rfl (pa_cons (pe_rdy R_l_edge hr (by decide) (by rfl) (pa_cons (pv 0) pa_nil)) (pa_cons (pe_rdy R_l_edge hr (by decide) (by rfl) (pa_cons (pv 0) pa_nil)) pa_nil)) (by rfl))
      (pss_mid (ps_if (pt_cmpR op_eq (pe_rdy R_l_take hr (by decide) (by rfl) (pa_cons (pv 0) (pa_cons pe_int pa_nil))) pe_int (nomark _))
      (pss_one (ps_set (i := 2) sc_l_stretch.nd rfl (Or.inl rfl) (pv 1)))
      pss_nil)
      (pss_cons (ps_par (i := 3) (j := 4) (by rfl) sc_l_stretch.nd rfl rfl (by decide) rfl rfl (pa_cons (pe_callB (call_min2 rfl) (by rfl) B.b_min (by decide +kernel) (pa_cons (pv 1) (pa_cons (pv 2) pa_nil))) (pa_cons (pe_callB (call_max2 rfl) (by rfl) B.b_max (by decide +kernel) (pa_cons (pv 1) (pa_cons (pv 2) pa_nil))) pa_nil)) (by rfl))
      (pss_cons (ps_set (i := 5) sc_l_stretch.nd rfl (Or.inl rfl) (pe_rdy R_l_take hr (by decide) (by rfl) (pa_cons (pv 0) (pa_cons pe_int pa_nil))))
      (pss_mid (ps_if (PW.pt (pw_or (pt_cmpR op_eq (pv 5) pe_int (nomark _)) (pw_or1 (pt_cmpR op_eq (pv 5) pe_int (nomark _)))))
      (pss_one (ps_set (i := 3) sc_l_stretch.nd rfl (Or.inl rfl) (pe_un un_neg (pe_op op_pow pe_int pe_int))))
      pss_nil)
      (pss_mid (ps_if (PW.pt (pw_or (pt_cmpR op_eq (pv 5) pe_int (nomark _)) (pw_or1 (pt_cmpR op_eq (pv 5) pe_int (nomark _)))))
      (pss_one (ps_set (i := 4) sc_l_stretch.nd rfl (Or.inl rfl) (pe_op op_pow pe_int pe_int)))
      pss_nil)
      (pss_one (ps_ret (pe_tup (pa_cons (pv 3) (pa_cons (pv 4) pa_nil))))))))))), ?_⟩
    refine ⟨_, rfl, p, _, rfl, bg, by omega, fun x H1 x0 x1 bg1 bt1 => ⟨_, rfl, p, _, rfl, bg1, by omega, fun y H2 y0 y1 bg2 bt2 => ⟨_, _, rfl, ?_⟩⟩⟩
    refine ⟨fun σ' H' => ∃ w, σ' = [some (.ref p), some (.int x), some (.int w), none, none, none] ∧ -1000000000000000000000000000000 ≤ w ∧ w ≤ 1000000000000000000000000000000 ∧ BagAt H' p (c + 7) ∧ But p H H', ?_, ?_⟩
    · refine ⟨_, rfl, p, 6, _, rfl, bg2, by omega, by omega, by omega, fun k H3 k0 k1 bg3 bt3 => ⟨rfl, _, rfl, ?_⟩⟩
      refine ite2 (fun c1 => ?_) (fun c1 => ?_)
      · exact ⟨_, rfl, x, rfl, x0, x1, bg3.mono (by omega), (bt1.trans bt2).trans bt3⟩
      · exact ⟨y, rfl, y0, y1, bg3.mono (by omega), (bt1.trans bt2).trans bt3⟩
    rintro σ' H3 ⟨w, rfl, w0, w1, bg3, bt3⟩
    refine ⟨_, rfl, _, rfl, _, _, rfl, _, rfl, _, rfl, _, _, rfl, _, _, rfl, ?_⟩
    refine ⟨_, rfl, p, 16, _, rfl, bg3, by omega, by omega, by omega, fun k H4 k0 k1 bg4 bt4 => ?_⟩
    obtain ⟨lo, elo⟩ : ∃ lo : Int, (if w < x then w else x) = lo := ⟨_, rfl⟩
    obtain ⟨hi, ehi⟩ : ∃ hi : Int, (if w > x then w else x) = hi := ⟨_, rfl⟩
    have hb : -1000000000000000000000000000000 ≤ lo ∧ lo ≤ hi ∧ hi ≤ 1000000000000000000000000000000 := by
      subst elo; subst ehi
      (repeat' split) <;> omega
    refine ⟨fun σ' H' => ∃ b, σ' = [some (.ref p), some (.int x), some (.int w), some (.int b), some (.int hi), some (.int k)] ∧ strP (b, hi) = true ∧ H' = H4, ?_, ?_⟩
    · have base : strP (lo, hi) = true := strP_of hb.1 hb.2.1 hb.2.2
      refine ⟨_, rfl, rfl, _, rfl, ?_⟩
      refine ite2 (fun c1 => ?_) (fun c1 => ?_)
      · exact ⟨_, _, rfl, rfl, ⟨by decide, by decide, by decide⟩, _, rfl, -10000000000000000000000000000000, by rw [← ehi]; rfl, strP_first base, rfl⟩
      · refine ⟨_, rfl, rfl, _, rfl, ?_⟩
        refine ite2 (fun c2 => ?_) (fun c2 => ?_)
        · exact ⟨_, _, rfl, rfl, ⟨by decide, by decide, by decide⟩, _, rfl, -10000000000000000000000000000000, by rw [← ehi]; rfl, strP_first base, rfl⟩
        · exact ⟨lo, by rw [← ehi, ← elo]; rfl, base, rfl⟩
    rintro σ' H5 ⟨b, rfl, base, rfl⟩
    refine ⟨fun σ' H' => ∃ e, σ' = [some (.ref p), some (.int x), some (.int w), some (.int b), some (.int e), some (.int k)] ∧ strP (b, e) = true ∧ H' = H5, ?_, ?_⟩
    · refine ⟨_, rfl, rfl, _, rfl, ?_⟩
      refine ite2 (fun c1 => ?_) (fun c1 => ?_)
      · exact ⟨_, _, rfl, rfl, ⟨by decide, by decide, by decide⟩, 10000000000000000000000000000000, rfl, strP_last base, rfl⟩
      · refine ⟨_, rfl, rfl, _, rfl, ?_⟩
        refine ite2 (fun c2 => ?_) (fun c2 => ?_)
        · exact ⟨_, _, rfl, rfl, ⟨by decide, by decide, by decide⟩, 10000000000000000000000000000000, rfl, strP_last base, rfl⟩
        · exact ⟨hi, rfl, base, rfl⟩
    rintro σ' H6 ⟨e, rfl, good, rfl⟩
    refine ⟨_, rfl, _, rfl, (by show 2 ≤ sizeLine; decide), fun T nT => ?_⟩
    have btf : But p H H6 := bt3.trans bt4
    have npT : p ≠ T := by obtain ⟨ys, h⟩ := bg4.lst; exact ne_of_none h nT
    exact q T b e _ ((btf T (Ne.symm npT)).symm.trans nT) upd_same good ((bg4.same (Same.new nT)).mono (by omega)) (btf.kp.trans (Kp.new nT))
end
/-! _law_has -/
abbrev s_l_has : Stmt := topS 40
abbrev sc_l_has_N : List Str := ["_law_rows", "_law_when", "_law_row"]
theorem sc_l_has : FnScope sc_l_has_N ["_law_rows", "_law_when"] (defScope s_l_has) := ⟨rfl, rfl, rfl, by decide +kernel, rfl, by decide +kernel, by decide +kernel⟩
def sp_l_has (K : PySem.W.Frag) : Sp := fun vs H Q _ => ∃ (a : Addr) (ts : List Addr) (ps : List Pr) (n : Int), vs = [.ref a, .int n] ∧ SqL K H a (ts.map V.ref) ∧ Pd H ts ps ∧ ps.length ≤ 900 ∧ ∀ H', Same H H' → Q (.bl (hasB ps n)) H'
section
variable {P : Program} {w : World} {K : PySem.W.Frag} {mg : Str → Option Value} {bh : Heap}
theorem ok_l_has {f : Addr} {fd : FuncData}  (B : Blt mg) (T : Txt K mg)  (F : Fun K "_law_has" "_law_has" s_l_has f fd) : FnOk P w K mg bh CX0 1 f fd ["_law_rows", "_law_when"] (sp_l_has K) := by
  refine F.ok sc_l_has (fun vs H Q E h => ?_) (fun cdv A outer s H vs Q E hr h => ?_)
  · obtain ⟨a, ts, ps, n, rfl, _⟩ := h
    rfl
  · obtain ⟨a, ts, ps, n, rfl, sq, pd, hl, q⟩ := h
    refine ⟨_, (pss_one (ps_ret (pe_cmpR (op_neD hr.units) (pe_lc (own := [("_law_row", 2)]) (by rfl) sc_l_has.nd (pi_sq (pv 0)) (blkOk_by (own := [("_law_row", 2)]) (N := sc_l_has_N) (sc := defScope s_l_has) (by decide +kernel)) (fun _ _ _ _ _ => (pg_name (i := 2) sc_l_has.nd rfl (Or.inl rfl))) (fun _ _ _ _ _ => (pts_one (pt_chain op_le op_lt (pe_ix (ix_tupK (K := K)) (pv 2) pe_int (fun _ _ => rfl)) (pv 1) (pe_ix (ix_tupK (K := K)) (pv 2) pe_int (fun _ _ => rfl))))) (fun _ _ _ _ _ => (pv 2))) (pe_lst pa_nil) (nomark _)))), ?_⟩
    have lts := pd.len
    refine ⟨_, rfl, a, _, rfl, .inl sq, fun J wk D nD => ?_⟩
    refine lc_it wk (fun i H' => ∃ us, Same H H' ∧ H' D = some (.lst (us.map V.ref)) ∧ Pd H' us ((ps.take i).filter fun p => decide (p.1 ≤ n) && decide (n < p.2))) ⟨[], Same.new nD, upd_same, trivial⟩ (fun i H' _ h => sameK h.choose_spec.1) ?_ ?_
    · rintro i x H3 H4 hi ⟨us, ss, hD, pu⟩ ⟨rfl, hx⟩
      obtain ⟨t', ht, rfl⟩ := map_get hx
      obtain ⟨p, hp, et0⟩ := Pd.get pd ht
      have et := ss _ _ et0
      have lu := pu.len
      have lf : ((ps.take i).filter fun p => decide (p.1 ≤ n) && decide (n < p.2)).length ≤ ps.length := filt_len
      refine ⟨rfl, ?_⟩
      refine ⟨_, rfl, t', _, 0, _, rfl, rfl, SqT.hp et, rfl, _, rfl, _, _, rfl, rfl, _, rfl, ?_⟩
      refine ite2 (fun c1 => ?_) (fun c1 => ⟨_, rfl, iteF ⟨us, ss, hD, keep_less pu hp (by rw [Bool.eq_false_iff.mpr c1]; rfl)⟩⟩)
      refine ⟨_, rfl, t', _, 1, _, rfl, rfl, SqT.hp et, rfl, _, _, rfl, rfl, _, rfl, ?_⟩
      refine ite2 (fun c2 => ?_) (fun c2 => ⟨us, ss, hD, keep_less pu hp (by rw [Bool.eq_false_iff.mpr c2, Bool.and_false])⟩)
      exact ⟨_, rfl, us.map V.ref, hD, by rw [List.length_map]; exact small1000 (by omega), keep_more ss nD hD pu et hp (by rw [c1, c2]; rfl)⟩
    · rintro H3 ⟨us, ss, hD, pu⟩
      rw [List.length_map, lts, List.take_length] at pu
      refine ⟨Nat.zero_le _, fun L nL => ?_⟩
      have sL := Same.new (o := .lst []) nL
      refine ⟨_, .list [], .lst (SqL.hp (sL _ _ hD)) (pu.same sL).dp, .lst (SqL.hp upd_same) .nil, shapedPs _, shapedNil, ?_⟩
      rw [eqvNil, any_filter]
      exact q _ (ss.trans sL)
end
/-! _law_moments -/
abbrev s_l_moments : Stmt := topS 41
abbrev sc_l_moments_N : List Str := ["_law_pairs", "_law_found", "_law_begin", "_law_end", "_law_one"]
theorem sc_l_moments : FnScope sc_l_moments_N ["_law_pairs"] (defScope s_l_moments) := ⟨rfl, rfl, rfl, by decide +kernel, rfl, by decide +kernel, by decide +kernel⟩
def sp_l_moments (K : PySem.W.Frag) : Sp := fun vs H Q _ => ∃ (a : Addr) (ts : List Addr) (ps : List Pr), vs = [.ref a] ∧ SqL K H a (ts.map V.ref) ∧ Pd H ts ps ∧ ps.length ≤ 100 ∧ ∀ r (ms : List Int) H', H r = none → H' r = some (.lst (ms.map V.int)) → ms.length ≤ 700 → (∀ m ∈ ms, -10000000000000000000000000000000 < m ∧ m < 10000000000000000000000000000000) → (∀ p ∈ ps, (-10000000000000000000000000000000 < p.1 → p.1 < 10000000000000000000000000000000 → p.1 ∈ ms) ∧ (-10000000000000000000000000000000 < p.2 → p.2 < 10000000000000000000000000000000 → p.2 ∈ ms)) → Same H H' → Q (.ref r) H'
section
variable {P : Program} {w : World} {K : PySem.W.Frag} {mg : Str → Option Value} {bh : Heap}
theorem ok_l_moments {f : Addr} {fd : FuncData}  (B : Blt mg) (T : Txt K mg)  (F : Fun K "_law_moments" "_law_moments" s_l_moments f fd) : FnOk P w K mg bh CX0 1 f fd ["_law_pairs"] (sp_l_moments K) := by
  refine F.ok sc_l_moments (fun vs H Q E h => ?_) (fun cdv A outer s H vs Q E hr h => ?_)
  · obtain ⟨a, ts, ps, rfl, _⟩ := h
    rfl
  · obtain ⟨a, ts, ps, rfl, sq, pd, hlen, q⟩ := h
    refine ⟨_, (pss_cons (ps_set (i := 1) sc_l_moments.nd rfl (Or.inl rfl) (pe_lst (pa_cons (pe_op op_sub pe_int (pe_op op_pow pe_int pe_int)) (pa_cons (pe_op op_sub (pe_op op_pow pe_int pe_int) pe_int) pa_nil))))
      (pss_cons (ps_for PassesOwn.never rfl (pi_list (pv 0)) (pg_tup (by rfl) (pgs_cons (pg_name (i := 2) sc_l_moments.nd rfl (Or.inl rfl)) (pgs_cons (pg_name (i := 3) sc_l_moments.nd rfl (Or.inl rfl)) pgs_nil)))
      (pss_one (ps_set (i := 1) sc_l_moments.nd rfl (Or.inl rfl) (pe_op op_cat (pv 1) (pe_lst (pa_cons (pe_op op_sub (pv 2) pe_int) (pa_cons (pv 2) (pa_cons (pe_op op_add (pv 2) pe_int) (pa_cons (pe_op op_sub (pv 3) pe_int) (pa_cons (pv 3) (pa_cons (pe_op op_add (pv 3) pe_int) pa_nil)))))))))))
      (pss_one (ps_ret (pe_callB (cr_sortSet (by rfl)) (by rfl) B.b_sorted (by decide +kernel) (pa_cons (pe_callTy (cr_setOf (by rfl)) (by rfl) B.b_set (by decide +kernel) (pa_cons (pe_lc (own := [("_law_one", 4)]) (by rfl) sc_l_moments.nd (pi_sq (pv 1)) (blkOk_by (own := [("_law_one", 4)]) (N := sc_l_moments_N) (sc := defScope s_l_moments) (by decide +kernel)) (fun _ _ _ _ _ => (pg_name (i := 4) sc_l_moments.nd rfl (Or.inl rfl))) (fun _ _ _ _ _ => (pts_one (pt_chain op_lt op_lt (pe_un un_neg (pe_op op_pow pe_int pe_int)) (pv 4) (pe_op op_pow pe_int pe_int)))) (fun _ _ _ _ _ => (pv 4))) pa_nil)) pa_nil)))))), ?_⟩
    have lts := pd.len
    refine ⟨_, _, rfl, rfl, ⟨by decide, by decide, by decide⟩, _, _, rfl, rfl, _, _, rfl, rfl, ⟨by decide, by decide, by decide⟩, _, _, rfl, rfl, (by show 2 ≤ sizeLine; decide), fun L nL => ?_⟩
    have sL := Same.new (o := .lst [.int (1 - 10 ^ (31 : Int).toNat), .int (10 ^ (31 : Int).toNat - 1)]) nL
    refine ⟨_, rfl, a, rfl, ⟨_, sL.seq sq⟩, ?_⟩
    refine for_list (K := K) (a := a) (xs := ts.map V.ref) (fun i σ H' => ∃ F fs y2 y3, σ = [some (.ref a), some (.ref F), y2, y3, none] ∧ H' F = some (.lst ((fs : List Int).map V.int)) ∧ fs.length ≤ 2 + 6 * i ∧ (∀ p ∈ ps.take i, p.1 ∈ fs ∧ p.2 ∈ fs) ∧ Same H H')
      ⟨L, [1 - 10 ^ (31 : Int).toNat, 10 ^ (31 : Int).toNat - 1], none, none, rfl, upd_same, Nat.le_refl _, (fun _ h => absurd h List.not_mem_nil), sL⟩ (fun i σ H' _ h => by obtain ⟨_, _, _, _, _, _, _, _, s⟩ := h; exact s.seq sq) ?_ ?_
    · rintro i x σ H3 hx ⟨F, fs, y2, y3, rfl, hF, hl, hin, s3⟩
      obtain ⟨t, ht, rfl⟩ := map_get hx
      obtain ⟨p, hp, et0⟩ := Pd.get pd ht
      have et := s3 _ _ et0
      have li : i < ps.length := (List.getElem?_eq_some_iff.mp hp).1
      refine ⟨t, _, rfl, SqT.hp et, rfl, _, _, rfl, _, _, rfl, rfl, ?_⟩
      refine ⟨_, rfl, _, rfl, _, _, rfl, rfl, _, rfl, _, rfl, _, _, rfl, rfl, _, rfl, _, _, rfl, rfl, _, rfl, _, rfl, _, _, rfl, rfl, (by show 6 ≤ sizeLine; decide), fun M nM => ?_⟩
      have sM := Same.new (o := .lst ([p.1 - 1, p.1, p.1 + 1, p.2 - 1, p.2, p.2 + 1].map V.int)) nM
      refine ⟨F, M, _, _, rfl, rfl, sM _ _ hF, upd_same, Nat.le_of_lt (small1000 (by rw [List.length_map]; show fs.length + 6 ≤ 1000; omega)), fun C nC => ?_⟩
      have sC := Same.new (o := .lst (fs.map V.int ++ [p.1 - 1, p.1, p.1 + 1, p.2 - 1, p.2, p.2 + 1].map V.int)) nC
      refine ⟨C, fs ++ [p.1 - 1, p.1, p.1 + 1, p.2 - 1, p.2, p.2 + 1], _, _, rfl, by rw [upd_same, List.map_append]; rfl, by rw [List.length_append]; show fs.length + 6 ≤ _; omega, ?_, s3.trans (sM.trans sC)⟩
      refine take_step (R := fun p => p.1 ∈ _ ∧ p.2 ∈ _) hp (fun r hr => ⟨List.mem_append_left _ (hin r hr).1, List.mem_append_left _ (hin r hr).2⟩) ⟨List.mem_append_right _ (.tail _ (.head _)), List.mem_append_right _ (.tail _ (.tail _ (.tail _ (.tail _ (.head _)))))⟩
    · rintro σ H3 ⟨F, fs, y2, y3, rfl, hF, hl, hin, s3⟩
      rw [List.length_map, lts] at hl hin
      rw [List.take_length] at hin
      refine ⟨_, rfl, F, _, rfl, .inl (SqL.hp hF), fun J wk D nD => ?_⟩
      refine lc_it wk (fun k H' => ∃ gs : List Int, Same H3 H' ∧ H' D = some (.lst (gs.map V.int)) ∧ gs = (fs.take k).filter fun n => decide (-10000000000000000000000000000000 < n) && decide (n < 10000000000000000000000000000000)) ⟨[], Same.new nD, upd_same, rfl⟩ (fun k H' _ h => sameK h.choose_spec.1) ?_ ?_
      · rintro k x H6 H7 hk ⟨gs, s6, hD, hgl⟩ ⟨rfl, hx⟩
        obtain ⟨n, hn, rfl⟩ := map_get hx
        rw [List.length_map] at hk
        have lg : gs.length ≤ fs.length := by rw [hgl]; exact Nat.le_trans (List.length_filter_le ..) (List.length_take_le' ..)
        have keep : (decide (-10000000000000000000000000000000 < n) && decide (n < 10000000000000000000000000000000)) = false → ∃ gs' : List Int, Same H3 H7 ∧ H7 D = some (.lst (gs'.map V.int)) ∧ gs' = (fs.take (k + 1)).filter fun n => decide (-10000000000000000000000000000000 < n) && decide (n < 10000000000000000000000000000000) := fun c => by
          refine ⟨gs, s6, hD, ?_⟩
          rw [take_more hn, List.filter_append, List.filter_cons_of_neg (by rw [c]; decide), List.filter_nil, List.append_nil]
          exact hgl
        refine ⟨rfl, ?_⟩
        refine ⟨_, _, rfl, rfl, ⟨by decide, by decide, by decide⟩, _, rfl, _, rfl, _, _, rfl, rfl, _, rfl, ?_⟩
        refine ite2 (fun c1 => ?_) (fun c1 => ⟨_, rfl, iteF (keep ?_)⟩)
        · have r1 : decide (-10000000000000000000000000000000 < n) = true := c1
          refine ⟨_, _, rfl, rfl, ⟨by decide, by decide, by decide⟩, _, _, rfl, rfl, _, rfl, ?_⟩
          refine ite2 (fun c2 => ?_) (fun c2 => keep ?_)
          · have r2 : decide (n < 10000000000000000000000000000000) = true := c2
            refine ⟨_, rfl, _, hD, by rw [List.length_map]; exact small1000 (by omega), gs ++ [n], fun w o e => by rw [upd_ne (ne_of_none e nD)]; exact s6 _ _ e, by rw [upd_same, List.map_append]; rfl, ?_⟩
            rw [take_more hn, List.filter_append, List.filter_cons_of_pos (by rw [r1, r2]; rfl), List.filter_nil, ← hgl]
          · have r2 : ¬ decide (n < 10000000000000000000000000000000) = true := c2
            rw [Bool.eq_false_iff.mpr r2, Bool.and_false]
        · have r1 : ¬ decide (-10000000000000000000000000000000 < n) = true := c1
          rw [Bool.eq_false_iff.mpr r1]; rfl
      · rintro H6 ⟨gs, s6, hD, hgl⟩
        rw [List.length_map, List.take_length] at hgl
        have lg : gs.length ≤ fs.length := by rw [hgl]; exact List.length_filter_le ..
        refine ⟨D, gs, rfl, SqL.hp hD, by omega, fun a2 n2 na2 => ⟨a2, _, n2, rfl, upd_same, fun ns r up mem nr => ?_⟩⟩
        have nr6 : H6 r = none := upd_free nr
        have mm : ∀ k, k ∈ ns ↔ k ∈ gs := fun k => (mem k).trans decide_eq_true_iff
        have gm : ∀ k, k ∈ gs ↔ k ∈ fs ∧ -10000000000000000000000000000000 < k ∧ k < 10000000000000000000000000000000 := fun k => by
          rw [hgl, List.mem_filter, Bool.and_eq_true, decide_eq_true_eq, decide_eq_true_eq]
        exact q r ns _ ((s3.trans s6).free nr6) upd_same (by have := len_sub up fun k hk => (mm k).mp hk; omega) (fun m hm => ((gm m).mp ((mm m).mp hm)).2) (fun p hp => ⟨fun h1 h2 => (mm _).mpr ((gm _).mpr ⟨(hin p hp).1, h1, h2⟩), fun h1 h2 => (mm _).mpr ((gm _).mpr ⟨(hin p hp).2, h1, h2⟩)⟩) ((s3.trans s6).trans ((Same.new na2).trans (Same.new nr)))
end
abbrev s_l_asked : Stmt := topS 42
abbrev sc_l_asked_N : List Str := ["_law_held", "_law_thing", "_law_is_in", "_law_told", "e"]
theorem sc_l_asked : FnScope sc_l_asked_N ["_law_held", "_law_thing", "_law_is_in"] (defScope s_l_asked) := ⟨rfl, rfl, rfl, by decide +kernel, rfl, by decide +kernel, by decide +kernel⟩
def sp_l_asked (K : PySem.W.Frag) (CD : Addr) : Sp := fun vs H Q _ => ∃ (o : Addr) (v : V) (d : PyData) (b : Bool) (us : List Pr), vs = [.ref o, v, .bl b] ∧ IsSpr H CD o us ∧ (∀ u ∈ us, strP u = true) ∧ Dp K H v d ∧ OkD d ∧
  (isMom d = false → ∀ ta H', Same H H' → SqT K H' ta [.str "bad", .str d.shown] → Q (.ref ta) H') ∧
  (∀ m, d = .int m → isMom d = true → ∀ ta H', Same H H' → SqT K H' ta [.str "told", .str (optD (nextB b us m)).shown] → Q (.ref ta) H')
def ts_err (K : PySem.W.Frag) (C : Addr) : Addr → Value → Option Addr → TS := fun a cls d => tRet (tIf (tB (tCB (rIsD K a cls d) (tCons (tVar 4) (tCons (tC (.ty "ValueError")) tNil))))
    (tTup (tCons (tC (.str "bad")) (tCons (tCB (rRepr K) (tCons (tXf a cls d C "moment" (tVar 4)) tNil)) tNil)))
    (tTup (tCons (tC (.str "wrong")) (tCons (tC (.str "")) tNil))))
def tb_as (K : PySem.W.Frag) (CD M : Addr) : WX → TS := fun W => tIfS (tB (tVar 2))
    (tAsg (tMethE CD "next_in" (sp_next_in K CD M) (WE W) (tVar 0) (tCons (tVar 1) tNil)) (gName 3))
    (tAsg (tMethE CD "next_out" (sp_next_out K CD M) (WE W) (tVar 0) (tCons (tVar 1) tNil)) (gName 3))
section
variable {P : Program} {w : World} {K : PySem.W.Frag} {mg : Str → Option Value} {bh : Heap}
theorem ok_l_asked {f : Addr} {fd : FuncData} {CD C_BadMoment fI_BadMoment f_in f_out : Addr} {fdE_BadMoment fd_in fd_out : FuncData} (B : Blt mg) (bV : mg "ValueError" = none) (T : Txt K mg) (SD : SprC K CD)
    (E_BadMoment : ErrT P w K mg bh "BadMoment" "moment" C_BadMoment fI_BadMoment fdE_BadMoment) (IV : ErrV K C_BadMoment)
    (RI : RdyMx P w K mg bh CD "next_in" 5 ["self", "moment"] (sp_next_in K CD C_BadMoment) f_in fd_in) (RO : RdyMx P w K mg bh CD "next_out" 5 ["self", "moment"] (sp_next_out K CD C_BadMoment) f_out fd_out)
    (F : Fun K "_law_asked" "_law_asked" s_l_asked f fd) : FnG P w K mg bh 6 f fd ["_law_held", "_law_thing", "_law_is_in"] (sp_l_asked K CD) := by
  refine Fun.okG F sc_l_asked (fun vs H Q E h => ?_) (fun cdv A outer s H vs Q E gd hr h => ?_)
  · obtain ⟨o, v, d, b, us, rfl, _⟩ := h
    rfl
  · obtain ⟨o, v, d, b, us, rfl, is, hu, dv, od, q1, q2⟩ := h
    have hu1 := Nat.lt_of_le_of_lt (Nat.add_le_add_left (by decide : 66 ≤ 200) _) (Nat.lt_of_le_of_lt (Nat.add_le_add_right (Nat.le_add_right _ _) _) hr.un)
    refine ⟨_, (pss_cons (ps_tryN (W0 := fun _ _ _ _ => False) (tb := tb_as K CD C_BadMoment) (l := [⟨.ref C_BadMoment, 4, ts_err K C_BadMoment⟩]) rfl rfl sc_l_asked.nd takes0 ?_ ?_)
      (pss_one (ps_ret (pe_tup (pa_cons pe_str (pa_cons (pe_callB (call_reprD gd hr) (by rfl) B.b_repr (by decide +kernel) (pa_cons (pv 3) pa_nil)) pa_nil)))))), ?_⟩
    · intro W pn xe tk _
      exact (pss_one (ps_if (pt_val (pv 2))
        (pss_one (ps_set (i := 3) sc_l_asked.nd rfl (Or.inl rfl) (pe_methE RI SD.cl hr (by decide) (pv 0) (fun σ => passAt tk σ) (pa_cons (pv 1) pa_nil))))
        (pss_one (ps_set (i := 3) sc_l_asked.nd rfl (Or.inl rfl) (pe_methE RO SD.cl hr (by decide) (pv 0) (fun σ => passAt tk σ) (pa_cons (pv 1) pa_nil))))))
    · refine ClOk.cons rfl rfl ⟨rfl, by decide, Or.inl E_BadMoment.gC⟩ (fun a oe cls d pn hz hf => ?_) .nil
      exact pss_one (ps_ret (pe_ifExp (pt_val (pe_callB (call_isD hz hf) (by rfl) B.b_isinstance (by decide +kernel) (pa_cons (pv 4) (pa_cons (pe_bltn (v := .ty "ValueError") (by rfl) bV (by decide +kernel) rfl) pa_nil))))
          (pe_tup (pa_cons pe_str (pa_cons (pe_callB (by exact call_reprU gd hu1) (by rfl) B.b_repr (by decide +kernel) (pa_cons (pe_xf E_BadMoment.xf E_BadMoment.noF hz hf (pv 4)) pa_nil)) pa_nil)))
          (pe_tup (pa_cons pe_str (pa_cons pe_str pa_nil)))))
    have suite : ∀ (D : L2.Ends) (dd a : Addr) (H' : Hp) (σ : L2.St), D.rt = Q → Same H H' → H' dd = some (.xd [(("moment" : Str), v)]) → σ[4]? = some (some (.ref a)) → isMom d = false → ts_err K C_BadMoment a (.ref C_BadMoment) (some dd) D σ H' := by
      intro D dd a H' σ hD s' hx h4 hm
      have lk : List.lookup ("moment" : Str) [(("moment" : Str), v)] = some v := by simp [List.lookup]
      refine ⟨.ref a, h4, C_BadMoment, dd, _, _, _, true, rfl, rfl, hx, rfl, .ty _, IV.xc, IV.isV, true, rfl, iteT ?_⟩
      refine ⟨.ref a, h4, rfl, rfl, dd, _, v, rfl, hx, lk, v, d, rfl, sameD s' d dv, od.sh, od.nd, Nat.le_trans od.dp (by decide), od.ln, (by show 2 ≤ sizeLine; decide), fun p np => ?_⟩
      show D.rt _ _
      rw [hD]
      exact q1 hm p _ (s'.trans (Same.new np)) (SqT.hp upd_same)
    have bad : ∀ (D : L2.Ends) (dd : Addr) (H' : Hp), D.rt = Q → Same H H' → H' dd = some (.xd [(("moment" : Str), v)]) → isMom d = false →
        wCl K (fun _ _ _ _ => False) D [⟨.ref C_BadMoment, 4, ts_err K C_BadMoment⟩] (.ref C_BadMoment) (some dd) [some (.ref o), some v, some (.bl b), none, none] H' := by
      intro D dd H' hD s' hx hm
      exact ⟨true, E_BadMoment.self, fun _ a na => suite _ dd a H' _ hD s' hx rfl hm, fun z => nomatch z⟩
    have good : ∀ x : Option Int, OkD (optD x) → (∀ ta H', Same H H' → SqT K H' ta [.str "told", .str (optD x).shown] → Q (.ref ta) H') →
        tRet (tTup (tCons (tC (.str "told")) (tCons (tCB (rRepr K) (tCons (tVar 3) tNil)) tNil))) { nx := fun _ J' => Q .non J', rt := Q } [some (.ref o), some v, some (.bl b), some (optV x), none] H := by
      intro x ox q
      refine ⟨_, rfl, _, optD x, rfl, dp_opt x, ox.sh, ox.nd, Nat.le_trans ox.dp (by decide), ox.ln, (by show 2 ≤ sizeLine; decide), fun p np => ?_⟩
      exact q p _ (Same.new np) (SqT.hp upd_same)
    obtain ⟨dx, t, ts, ho, ht, pd⟩ := id is
    cases b with
    | true =>
      refine ⟨_, rfl, true, rfl, iteT ?_⟩
      exact ⟨_, rfl, o, dx, _, rfl, ho, spr_in t, _, rfl, o, v, d, us, rfl, dv, is, fun hm dd nd => bad _ dd _ rfl (Same.new nd) upd_same hm, fun m em hm => good (nextB true us m) (nextB_ok hu (em ▸ hm)) (q2 m em hm)⟩
    | false =>
      refine ⟨_, rfl, false, rfl, iteF ?_⟩
      exact ⟨_, rfl, o, dx, _, rfl, ho, spr_out t, _, rfl, o, v, d, us, rfl, dv, is, fun hm dd nd => bad _ dd _ rfl (Same.new nd) upd_same hm, fun m em hm => good (nextB false us m) (nextB_ok hu (em ▸ hm)) (q2 m em hm)⟩
end
/-! _law_due -/
abbrev s_l_due : Stmt := topS 43
abbrev sc_l_due_N : List Str := ["_law_rows", "_law_whens", "_law_when", "_law_is_in", "_law_one"]
theorem sc_l_due : FnScope sc_l_due_N ["_law_rows", "_law_whens", "_law_when", "_law_is_in"] (defScope s_l_due) := ⟨rfl, rfl, rfl, by decide +kernel, rfl, by decide +kernel, by decide +kernel⟩
def sp_l_due (K : PySem.W.Frag) : Sp := fun vs H Q _ => ∃ (a b : Addr) (ts : List Addr) (ps : List Pr) (ms : List Int) (m : Int) (z : Bool), vs = [.ref a, .ref b, .int m, .bl z] ∧ SqL K H a (ts.map V.ref) ∧ Pd H ts ps ∧ ps.length ≤ 900 ∧ SqL K H b (ms.map V.int) ∧ (∀ n ∈ ms, -10000000000000000000000000000000 < n ∧ n < 10000000000000000000000000000000) ∧ ∀ ta H', Same H H' → SqT K H' ta [.str "told", .str (optD (dueF ps ms m z)).shown] → Q (.ref ta) H'
section
variable {P : Program} {w : World} {K : PySem.W.Frag} {mg : Str → Option Value} {bh : Heap}
theorem ok_l_due {f : Addr} {fd : FuncData} {f_l_has : Addr} {fd_l_has : FuncData} (B : Blt mg) (T : Txt K mg) (R_l_has : Rdy P w K mg bh "_law_has" 1 ["_law_rows", "_law_when"] (sp_l_has K) f_l_has fd_l_has) (F : Fun K "_law_due" "_law_due" s_l_due f fd) : FnG P w K mg bh 2 f fd ["_law_rows", "_law_whens", "_law_when", "_law_is_in"] (sp_l_due K) := by
  refine Fun.okG F sc_l_due (fun vs H Q E h => ?_) (fun cdv A outer s H vs Q E gd hr h => ?_)
  · obtain ⟨a, b, ts, ps, ms, m, z, rfl, _⟩ := h
    rfl
  · obtain ⟨a, b, ts, ps, ms, m, z, rfl, sq, pd, hl, sm, hr', q⟩ := h
    refine ⟨_, (pss_cons (ps_for PassesOwn.never rfl (pi_sq (pv 1)) (pg_name (i := 4) sc_l_due.nd rfl (Or.inl rfl))
      (pss_one (ps_if (PW.pt (pw_and (pt_cmpR op_ge (pv 4) (pv 2) (nomark _)) (pw_and1 (pt_cmpR op_eq (pe_rdy R_l_has hr (by decide) (by rfl) (pa_cons (pv 0) (pa_cons (pv 4) pa_nil))) (pv 3) (nomark _)))))
      (pss_one (ps_ret (pe_tup (pa_cons pe_str (pa_cons (pe_callB (call_reprD gd hr) (by rfl) B.b_repr (by decide +kernel) (pa_cons (pv 4) pa_nil)) pa_nil)))))
      pss_nil)))
      (pss_one (ps_ret (pe_tup (pa_cons pe_str (pa_cons pe_str pa_nil)))))), ?_⟩
    refine ⟨_, rfl, b, _, rfl, .inl sm, fun J wk => ?_⟩
    refine for_it wk (fun i σ H' => (∃ y, σ = [some (.ref a), some (.ref b), some (.int m), some (.bl z), y]) ∧ Same H H' ∧ ∀ n ∈ ms.take i, (decide (m ≤ n) && (hasB ps n == z)) = false) ⟨⟨none, rfl⟩, Same.refl H, fun _ h => absurd h List.not_mem_nil⟩ (fun i σ H' _ h => sameK h.2.1) ?_ ?_
    · rintro i x σ H1 H2 hi ⟨⟨y, rfl⟩, s1, no⟩ ⟨rfl, hx⟩
      obtain ⟨n, hn, rfl⟩ := map_get hx
      have bn := hr' n (List.mem_of_getElem? hn)
      have ok : OkD (.int n) := okD_small (by omega) (by omega)
      refine ⟨_, rfl, _, rfl, _, _, rfl, rfl, _, rfl, ?_⟩
      refine ite2 (fun c1 => ?_) (fun c1 => ⟨⟨_, rfl⟩, s1, take_step (R := fun n => (decide (m ≤ n) && (hasB ps n == z)) = false) hn no (by rw [Bool.eq_false_iff.mpr c1]; rfl)⟩)
      refine ⟨_, rfl, _, rfl, a, ts, ps, n, rfl, s1.seq sq, pd.same s1, hl, fun H3 s3 => ⟨_, rfl, rfl, _, rfl, ?_⟩⟩
      refine ite2 (fun c2 => ?_) (fun c2 => ⟨⟨_, rfl⟩, s1.trans s3, take_step (R := fun n => (decide (m ≤ n) && (hasB ps n == z)) = false) hn no ?_⟩)
      · have c2 : hasB ps n = z := V.bl.inj (of_decide_eq_true c2)
        have e : dueF ps ms m z = some n := find_at (P := fun n => decide (m ≤ n) && (hasB ps n == z)) hn (by rw [c1, c2]; simp) no
        rw [e] at q
        exact ⟨_, rfl, _, .int n, rfl, .int n, ok.sh, ok.nd, Nat.le_trans ok.dp (by decide), ok.ln, (by show 2 ≤ sizeLine; decide), fun p np => q p _ ((s1.trans s3).trans (Same.new np)) (SqT.hp upd_same)⟩
      · have c2 : ¬ hasB ps n = z := fun h => c2 (decide_eq_true (congrArg V.bl h))
        rw [Bool.and_eq_false_iff]
        exact .inr (beq_eq_false_iff_ne.mpr c2)
    · rintro σ H1 ⟨⟨y, rfl⟩, s1, no⟩
      rw [List.length_map, List.take_length] at no
      have e : dueF ps ms m z = none := find_no (P := fun n => decide (m ≤ n) && (hasB ps n == z)) no
      rw [e] at q
      exact ⟨(by show 2 ≤ sizeLine; decide), fun p np => q p _ (s1.trans (Same.new np)) (SqT.hp upd_same)⟩
end
/-! law -/
abbrev s_law : Stmt := topS 44
abbrev sc_law_N : List Str := ["_law_script", "_law_at", "_law_bag_here", "_law_rows", "_law_held", "_law_any_one", "_law_whens", "_law_odd", "_law_turn", "_law_is_in", "_law_when", "_law_thing"]
theorem sc_law : FnScope sc_law_N ["_law_script"] (defScope s_law) := ⟨rfl, rfl, rfl, by decide +kernel, rfl, by decide +kernel, by decide +kernel⟩
def sp_law (K : PySem.W.Frag) : Sp := fun vs H Q _ => ∃ (a : Addr) (ns : List Int), vs = [.ref a] ∧ SqL K H a (ns.map V.int) ∧ ns.length ≤ 63 ∧ ∀ H', Q (.bl true) H'
section
variable {P : Program} {w : World} {K : PySem.W.Frag} {mg : Str → Option Value} {bh : Heap}
theorem ok_law {f : Addr} {fd : FuncData} {CD f_of : Addr} {f_l_bag : Addr} {fd_l_bag : FuncData} {f_l_edge : Addr} {fd_l_edge : FuncData} {f_l_stretch : Addr} {fd_l_stretch : FuncData} {f_l_moments : Addr} {fd_l_moments : FuncData} {f_l_take : Addr} {fd_l_take : FuncData} {f_l_asked : Addr} {fd_l_asked : FuncData} {f_l_due : Addr} {fd_l_due : FuncData} (B : Blt mg) (T : Txt K mg) (RO : RdyS P w K mg bh "Spread" CD "of" 9 (sp_Spread_of K CD) f_of) (R_l_bag : Rdy P w K mg bh "_law_bag" 1 ["_law_script", "_law_at"] (sp_l_bag K) f_l_bag fd_l_bag) (R_l_edge : Rdy P w K mg bh "_law_edge" 2 ["_law_bag_here"] (sp_l_edge K) f_l_edge fd_l_edge) (R_l_stretch : Rdy P w K mg bh "_law_stretch" 3 ["_law_bag_here"] (sp_l_stretch K) f_l_stretch fd_l_stretch) (R_l_moments : Rdy P w K mg bh "_law_moments" 1 ["_law_pairs"] (sp_l_moments K) f_l_moments fd_l_moments) (R_l_take : Rdy P w K mg bh "_law_take" 1 ["_law_bag_here", "_law_many"] (sp_l_take K) f_l_take fd_l_take) (R_l_asked : RdyG P w K mg bh "_law_asked" 6 ["_law_held", "_law_thing", "_law_is_in"] (sp_l_asked K CD) f_l_asked fd_l_asked) (R_l_due : RdyG P w K mg bh "_law_due" 2 ["_law_rows", "_law_whens", "_law_when", "_law_is_in"] (sp_l_due K) f_l_due fd_l_due) (F : Fun K "law" "law" s_law f fd) : FnG P w K mg bh 10 f fd ["_law_script"] (sp_law K) := by
  refine Fun.okG F sc_law (fun vs H Q E h => ?_) (fun cdv A outer s H vs Q E gd hr h => ?_)
  · obtain ⟨a, ns, rfl, _⟩ := h
    rfl
  · obtain ⟨a, ns, rfl, hS, hn, q⟩ := h
    refine ⟨_, (pss_cons (ps_for PassesOwn.never rfl (pi_range1 (by rfl) B.b_range (pa_cons (pe_callB (call_max2 rfl) (by rfl) B.b_max (by decide +kernel) (pa_cons pe_int (pa_cons (pe_callB (call_min2 rfl) (by rfl) B.b_min (by decide +kernel) (pa_cons (pe_callB call_len_seq (by rfl) B.b_len (by decide +kernel) (pa_cons (pv 0) pa_nil)) (pa_cons pe_int pa_nil))) pa_nil))) pa_nil)) (pg_name (i := 1) sc_law.nd rfl (Or.inl rfl))
      (pss_cons (ps_set (i := 2) sc_law.nd rfl (Or.inr rfl) (pe_rdy R_l_bag hr (by decide) (by rfl) (pa_cons (pv 0) (pa_cons (pv 1) pa_nil))))
      (pss_cons (ps_setLc (i := 3) (own := [("_law_turn", 8)]) (by rfl) sc_law.nd rfl rfl (sw_true rfl rfl rfl (by decide +kernel)) (pi_range1 (by rfl) B.b_range (pa_cons (pe_rdy R_l_take hr (by decide) (by rfl) (pa_cons (pv 2) (pa_cons pe_int pa_nil))) pa_nil)) (blkOk_by (own := [("_law_turn", 8)]) (N := sc_law_N) (sc := defScope s_law) (by decide +kernel)) (fun _ _ _ _ _ => (pg_name (i := 8) sc_law.nd rfl (Or.inl rfl))) (fun _ _ _ _ _ => pts_nil) (fun _ _ _ _ _ => (pe_rdy R_l_stretch hr (by decide) (by rfl) (pa_cons (pv 2) pa_nil))))
      (pss_cons (ps_set (i := 4) sc_law.nd rfl (Or.inl rfl) (pe_rdyS RO hr (by decide) (by rfl) (pa_cons (pv 3) pa_nil)))
      (pss_cons (ps_set (i := 5) sc_law.nd rfl (Or.inl rfl) (pe_rdy R_l_edge hr (by decide) (by rfl) (pa_cons (pv 2) pa_nil)))
      (pss_cons (ps_set (i := 6) sc_law.nd rfl (Or.inl rfl) (pe_callB cr_sortedI (by rfl) B.b_sorted (by decide +kernel) (pa_cons (pe_op op_cat (pe_rdy R_l_moments hr (by decide) (by rfl) (pa_cons (pv 3) pa_nil)) (pe_lst (pa_cons (pv 5) pa_nil))) pa_nil)))
      (pss_cons (ps_set (i := 7) sc_law.nd rfl (Or.inl rfl) (pe_lst (pa_cons pe_non (pa_cons pe_bl (pa_cons pe_bl (pa_cons pe_str (pa_cons (pe_tup (pa_cons (pv 5) pa_nil)) (pa_cons (pe_op op_pow pe_int pe_int) (pa_cons (pe_un un_neg (pe_op op_pow pe_int pe_int)) (pa_cons (pe_op op_add (pe_op op_pow pe_int pe_int) (pe_callB call_abs (by rfl) B.b_abs (by decide +kernel) (pa_cons (pv 5) pa_nil))) (pa_cons (pe_lst (pa_cons (pv 5) pa_nil)) pa_nil)))))))))))
      (pss_one (ps_for PassesOwn.never rfl (pi_range1 (by rfl) B.b_range (pa_cons pe_int pa_nil)) (pg_name (i := 8) sc_law.nd rfl (Or.inl rfl))
      (pss_cons (ps_for PassesOwn.never rfl (pi_list (pe_lst (pa_cons pe_bl (pa_cons pe_bl pa_nil)))) (pg_name (i := 9) sc_law.nd rfl (Or.inl rfl))
      (pss_cons (ps_for PassesOwn.never rfl (pi_list (pv 6)) (pg_name (i := 10) sc_law.nd rfl (Or.inl rfl))
      (pss_one (ps_if (pt_cmpR (op_neD hr.units) (pe_rdyG R_l_asked gd hr (by decide) (by rfl) (pa_cons (pv 4) (pa_cons (pv 10) (pa_cons (pv 9) pa_nil)))) (pe_rdyG R_l_due gd hr (by decide) (by rfl) (pa_cons (pv 3) (pa_cons (pv 6) (pa_cons (pv 10) (pa_cons (pv 9) pa_nil))))) (nomark _))
      (pss_one (ps_ret pe_bl))
      pss_nil)))
      (pss_one (ps_for PassesOwn.never rfl (pi_list (pv 7)) (pg_name (i := 11) sc_law.nd rfl (Or.inl rfl))
      (pss_one (ps_if (pt_cmpR (op_neD hr.units) (pe_rdyG R_l_asked gd hr (by decide) (by rfl) (pa_cons (pv 4) (pa_cons (pv 11) (pa_cons (pv 9) pa_nil)))) (pe_tup (pa_cons pe_str (pa_cons (pe_callB (call_reprD gd hr) (by rfl) B.b_repr (by decide +kernel) (pa_cons (pv 11) pa_nil)) pa_nil))) (nomark _))
      (pss_one (ps_ret pe_bl))
      pss_nil))))))
      (pss_cons (ps_set (i := 3) sc_law.nd rfl (Or.inl rfl) (pe_slice sl_list (pv 3) po_none (po_some pe_int)))
      (pss_one (ps_set (i := 4) sc_law.nd rfl (Or.inl rfl) (pe_rdyS RO hr (by decide) (by rfl) (pa_cons (pv 3) pa_nil)))))))))))))))
      (pss_one (ps_ret pe_bl))), ?_⟩
    refine ⟨_, rfl, a, _, rfl, .inl hS, _, _, rfl, _, _, rfl, ?_⟩
    rw [List.length_map]
    obtain ⟨N, eN⟩ : ∃ N : Int, (if (if (6 : Int) < (ns.length : Int) then (6 : Int) else (ns.length : Int)) > 1 then (if (6 : Int) < (ns.length : Int) then (6 : Int) else (ns.length : Int)) else 1) = N := ⟨_, rfl⟩
    have hN : 1 ≤ N ∧ N ≤ 6 := by
      subst eN
      (repeat' split) <;> omega
    refine ⟨N, by rw [← eN], by omega, by omega, ?_⟩
    refine for_range (lo := 0) (n := N.toNat) (fun i σ H' => (∃ y1 y2 y3 y4 y5 y6 y7 y8 y9 y10 y11, σ = [some (.ref a), y1, y2, y3, y4, y5, y6, y7, y8, y9, y10, y11]) ∧ Same H H') ⟨⟨_, _, _, _, _, _, _, _, _, _, _, rfl⟩, Same.refl H⟩ ?_ ?_
    · rintro i σ H5 hi ⟨⟨y1, y2, y3, y4, y5, y6, y7, y8, y9, y10, y11, rfl⟩, s5⟩
      refine ⟨_, rfl, _, rfl, a, ns, _, rfl, s5.seq hS, by omega, by omega, fun p H6 np bg6 bt6 => ?_⟩
      refine ⟨_, rfl, p, 11, _, rfl, bg6, by omega, by omega, by omega, fun n H7 n0 n1 bg7 bt7 => ⟨n, rfl, by omega, by omega, fun D nD => ?_⟩⟩
      have npD : p ≠ D := by obtain ⟨ys, h⟩ := bg7.lst; exact ne_of_none h nD
      refine lc_it (walk_range (lo := 0) (n := n.toNat)) (fun j H' => ∃ us qs, BagAt H' p (1 + 8 * (j : Int)) ∧ Kp p H7 H' ∧ H' D = some (.lst (us.map V.ref)) ∧ Pd H' us qs ∧ (∀ x ∈ qs, strP x = true) ∧ qs.length = j) ⟨[], [], (bg7.same (Same.new nD)).mono (by omega), Kp.new nD, upd_same, trivial, fun x hx => absurd hx List.not_mem_nil, rfl⟩ (fun _ _ _ _ => trivial) ?_ ?_
      · rintro j x Ha Hb hj ⟨us, qs, bgx, kpx, hD, pdx, gx, lx⟩ ⟨rfl, rfl⟩
        have lu := pdx.len
        refine ⟨rfl, ?_⟩
        refine ⟨_, rfl, p, _, rfl, bgx, by omega, fun t b e Hc nt et gd' bgc kpc => ?_⟩
        have hDc := kpc _ _ (Ne.symm npD) hD
        have nDt : D ≠ t := ne_of hDc et (fun z => nomatch z)
        have pdc : Pd Hc us qs := Pd.kp kpc (fun xs z => by obtain ⟨ys, h⟩ := bgx.lst; rw [h] at z; cases z) pdx
        refine ⟨us.map V.ref, hDc, ?_, us ++ [t], qs ++ [(b, e)], ?_, ?_, ?_, ?_, ?_, ?_⟩
        · rw [List.length_map]
          exact small1000 (by omega)
        · exact (bag_kp bgc (Kp.at_ (p := D)) npD).mono (by omega)
        · intro b' o nb hb'
          rw [upd_ne (ne_of_none hb' nD)]
          exact kpc _ _ nb (kpx _ _ nb hb')
        · rw [upd_same, List.map_append]; rfl
        · refine Pd.app (Pd.kp (Kp.at_ (p := D)) (fun xs z => by rw [hDc] at z; cases z) pdc) ⟨?_, trivial⟩
          rw [upd_ne (Ne.symm nDt)]
          exact et
        · intro w hw
          rcases List.mem_append.mp hw with hw | hw
          · exact gx w hw
          · exact (List.mem_singleton.mp hw) ▸ gd'
        · rw [List.length_append, lx]; rfl
      rintro H8 ⟨us, qs, bg8, kp8, hD, pd8, g8, l8⟩
      have lq : qs.length ≤ 10 := by omega
      refine ⟨_, rfl, D, us, qs, rfl, .inl (SqL.hp hD), pd8, g8, by omega, fun o H9 no s9 is9 => ?_⟩
      refine ⟨_, rfl, p, _, rfl, bg8.same s9, by omega, fun e H10 e0 e1 bg10 bt10 => ?_⟩
      have hb9 : ∃ xs, H9 p = some (.lst xs) := (bg8.same s9).lst
      have hD10 := bt10.kp _ _ (Ne.symm npD) (s9 _ _ hD)
      have pd10 : Pd H10 us qs := (pd8.same s9).kp bt10.kp (fun xs z => by obtain ⟨ys, h⟩ := hb9; rw [h] at z; cases z)
      have is10 := is9.kp bt10.kp hb9
      have s10 : Same H H10 := s5.trans (bag_same np bt6 ((bt7.kp.trans kp8).trans ((Kp.same s9).trans bt10.kp)))
      clear is9 hb9 bt10 bg10 bg8 pd8 kp8 bt7 bg7 bg6 bt6 hD
      refine ⟨_, rfl, D, us, qs, rfl, SqL.hp hD10, pd10, by omega, fun r ms H11 nr hr11 ml mb me s11 => ?_⟩
      refine ⟨_, rfl, (by show 1 ≤ sizeLine; decide), fun M nM => ?_⟩
      have sM := Same.new (o := .lst ([e].map V.int)) nM
      refine ⟨r, M, _, _, rfl, rfl, sM _ _ hr11, upd_same, Nat.le_of_lt (small1000 (by rw [List.length_map]; show ms.length + 1 ≤ 1000; omega)), fun C nC => ?_⟩
      have sC := Same.new (o := .lst (ms.map V.int ++ [e].map V.int)) nC
      refine ⟨C, ms ++ [e], rfl, SqL.hp (by rw [List.map_append]; exact upd_same), fun ws W pm up nW => ?_⟩
      have sW := Same.new (o := .lst (ws.map V.int)) nW
      refine ⟨_, rfl, (by show 1 ≤ sizeLine; decide), fun T nT => ?_⟩
      have sT := Same.new (o := .tup [V.int e]) nT
      refine ⟨_, _, rfl, rfl, ⟨by decide, by decide, by decide⟩, _, _, rfl, rfl, ⟨by decide, by decide, by decide⟩, _, rfl, _, _, rfl, rfl, ⟨by decide, by decide, by decide⟩, _, rfl, _, rfl, _, _, rfl, rfl, ?_⟩
      refine ⟨_, rfl, (by show 1 ≤ sizeLine; decide), fun L nL => ?_⟩
      have sL := Same.new (o := .lst [V.int e]) nL
      refine ⟨(by show 9 ≤ sizeLine; decide), fun O nO => ?_⟩
      have s12 : Same H10 (upd (upd (upd (upd (upd (upd H11 M (.lst [V.int e])) C (.lst (ms.map V.int ++ [V.int e]))) W (.lst (ws.map V.int))) T (.tup [V.int e])) L (.lst [V.int e])) O (.lst [V.non, V.bl true, V.bl false, V.str "0", V.ref T, V.int (10 ^ (31 : Int).toNat), V.int (-(10 ^ (31 : Int).toNat)), V.int (10 ^ (31 : Int).toNat + (if e < 0 then -e else e)), V.ref L])) := s11.trans (sM.trans (sC.trans (sW.trans (sT.trans (sL.trans (Same.new nO))))))
      have hO : (upd (upd (upd (upd (upd (upd H11 M (.lst [V.int e])) C (.lst (ms.map V.int ++ [V.int e]))) W (.lst (ws.map V.int))) T (.tup [V.int e])) L (.lst [V.int e])) O (.lst [V.non, V.bl true, V.bl false, V.str "0", V.ref T, V.int (10 ^ (31 : Int).toNat), V.int (-(10 ^ (31 : Int).toNat)), V.int (10 ^ (31 : Int).toNat + (if e < 0 then -e else e)), V.ref L])) O = some (.lst [V.non, V.bl true, V.bl false, V.str "0", V.ref T, V.int (10 ^ (31 : Int).toNat), V.int (-(10 ^ (31 : Int).toNat)), V.int (10 ^ (31 : Int).toNat + (if e < 0 then -e else e)), V.ref L]) := upd_same
      have hW : (upd (upd (upd (upd (upd (upd H11 M (.lst [V.int e])) C (.lst (ms.map V.int ++ [V.int e]))) W (.lst (ws.map V.int))) T (.tup [V.int e])) L (.lst [V.int e])) O (.lst [V.non, V.bl true, V.bl false, V.str "0", V.ref T, V.int (10 ^ (31 : Int).toNat), V.int (-(10 ^ (31 : Int).toNat)), V.int (10 ^ (31 : Int).toNat + (if e < 0 then -e else e)), V.ref L])) W = some (.lst (ws.map V.int)) := (sT.trans (sL.trans (Same.new nO))) _ _ upd_same
      have hT : (upd (upd (upd (upd (upd (upd H11 M (.lst [V.int e])) C (.lst (ms.map V.int ++ [V.int e]))) W (.lst (ws.map V.int))) T (.tup [V.int e])) L (.lst [V.int e])) O (.lst [V.non, V.bl true, V.bl false, V.str "0", V.ref T, V.int (10 ^ (31 : Int).toNat), V.int (-(10 ^ (31 : Int).toNat)), V.int (10 ^ (31 : Int).toNat + (if e < 0 then -e else e)), V.ref L])) T = some (.tup [V.int e]) := (sL.trans (Same.new nO)) _ _ upd_same
      have hL : (upd (upd (upd (upd (upd (upd H11 M (.lst [V.int e])) C (.lst (ms.map V.int ++ [V.int e]))) W (.lst (ws.map V.int))) T (.tup [V.int e])) L (.lst [V.int e])) O (.lst [V.non, V.bl true, V.bl false, V.str "0", V.ref T, V.int (10 ^ (31 : Int).toNat), V.int (-(10 ^ (31 : Int).toNat)), V.int (10 ^ (31 : Int).toNat + (if e < 0 then -e else e)), V.ref L])) L = some (.lst [V.int e]) := (Same.new nO) _ _ upd_same
      clear nO sL nL sT nT sW nW sC nC sM nM nr hr11
      generalize (upd (upd (upd (upd (upd (upd H11 M (.lst [V.int e])) C (.lst (ms.map V.int ++ [V.int e]))) W (.lst (ws.map V.int))) T (.tup [V.int e])) L (.lst [V.int e])) O (.lst [V.non, V.bl true, V.bl false, V.str "0", V.ref T, V.int (10 ^ (31 : Int).toNat), V.int (-(10 ^ (31 : Int).toNat)), V.int (10 ^ (31 : Int).toNat + (if e < 0 then -e else e)), V.ref L])) = H12 at *
      have od : ∀ x ∈ [V.non, V.bl true, V.bl false, V.str "0", V.ref T, V.int (10 ^ (31 : Int).toNat), V.int (-(10 ^ (31 : Int).toNat)), V.int (10 ^ (31 : Int).toNat + (if e < 0 then -e else e)), V.ref L], Odd K H12 x := by
        intro x hx
        simp only [List.mem_cons, List.not_mem_nil, or_false] at hx
        rcases hx with rfl | rfl | rfl | rfl | rfl | rfl | rfl | rfl | rfl
        · exact ⟨.none, .non, okD_none, rfl⟩
        · exact ⟨.bool true, .bl true, okD_bool _, rfl⟩
        · exact ⟨.bool false, .bl false, okD_bool _, rfl⟩
        · exact ⟨.str "0", .str _, okD_zero, rfl⟩
        · exact ⟨.tuple [.int e], .tup (SqT.hp hT) (.cons (.int e) .nil), okD_tup1 (by omega) (by omega), rfl⟩
        · show Odd K H12 (.int 10000000000000000000000000000000)
          exact odd_int (by omega) (by omega) (by omega)
        · show Odd K H12 (.int (-10000000000000000000000000000000))
          exact odd_int (by omega) (by omega) (by omega)
        · show Odd K H12 (.int (10000000000000000000000000000000 + (if e < 0 then -e else e)))
          exact odd_int (by split <;> omega) (by split <;> omega) (by split <;> omega)
        · exact ⟨.list [.int e], .lst (SqL.hp hL) (.cons (.int e) .nil), okD_lst1 (by omega) (by omega), rfl⟩
      generalize [V.non, V.bl true, V.bl false, V.str "0", V.ref T, V.int (10 ^ (31 : Int).toNat), V.int (-(10 ^ (31 : Int).toNat)), V.int (10 ^ (31 : Int).toNat + (if e < 0 then -e else e)), V.ref L] = XS at hO od
      have hwb : ∀ m ∈ ws, -10000000000000000000000000000000 < m ∧ m < 10000000000000000000000000000000 := fun m hm => by
        rcases List.mem_append.mp (pm.mem_iff.mp hm) with h | h
        · exact mb m h
        · rw [List.mem_singleton.mp h]; omega
      have hwe : ∀ q ∈ qs, (-10000000000000000000000000000000 < q.1 → q.1 ∈ ws) ∧ (q.2 < 10000000000000000000000000000000 → q.2 ∈ ws) := fun q hq => by
        have sb := strP_bds (g8 q hq)
        exact ⟨fun h => pm.mem_iff.mpr (List.mem_append_left _ ((me q hq).1 h (by omega))), fun h => pm.mem_iff.mpr (List.mem_append_left _ ((me q hq).2 (by omega) h))⟩
      clear hT hL
      have hD12 := s12 _ _ hD10
      have pd12 := pd10.same s12
      have is12 := is10.same s12
      have sH12 : Same H H12 := s10.trans s12
      refine ⟨2, rfl, by omega, by omega, ?_⟩
      refine for_range (lo := 0) (n := (2 : Int).toNat) (fun k σ H' => ∃ (R o' : Addr) (rs : List Addr) (ps : List Pr) (z8 z9 z10 z11 : Option V), σ = [some (.ref a), some (.int (0 + (i : Int))), some (.ref p), some (.ref R), some (.ref o'), some (.int e), some (.ref W), some (.ref O), z8, z9, z10, z11] ∧
          H' R = some (.lst (rs.map V.ref)) ∧ Pd H' rs ps ∧ (∀ x ∈ ps, x ∈ qs) ∧ ps.length ≤ 10 ∧ IsSpr H' CD o' (unionM false ps) ∧ Same H12 H')
        ⟨D, o, us, qs, _, _, _, _, rfl, hD12, pd12, fun _ h => h, lq, is12, Same.refl _⟩ ?_ ?_
      · rintro k σ Hk hk ⟨R, o', rs, ps, z8, z9, z10, z11, rfl, hR, pdR, sub, lps, isR, sk⟩
        have gps : ∀ x ∈ ps, strP x = true := fun x hx => g8 x (sub x hx)
        have gus : ∀ u ∈ unionM false ps, strP u = true := fun u hu => (union_edges gps u hu).1
        have wh : Whens ps ws := ⟨up, hwb, fun x hx => (hwe x (sub x hx)).1, fun x hx => (hwe x (sub x hx)).2⟩
        refine ⟨(by show 2 ≤ sizeLine; decide), fun B' nB => ⟨B', rfl, ⟨_, SqL.hp upd_same⟩, ?_⟩⟩
        have sB := Same.new (o := .lst [.bl true, .bl false]) nB
        have hB : (upd Hk B' (.lst [.bl true, .bl false])) B' = some (.lst [.bl true, .bl false]) := upd_same
        generalize upd Hk B' (.lst [.bl true, .bl false]) = HB at *
        refine for_list (K := K) (a := B') (xs := [.bl true, .bl false]) (fun j σ H' => (∃ z9 z10 z11, σ = [some (.ref a), some (.int (0 + (i : Int))), some (.ref p), some (.ref R), some (.ref o'), some (.int e), some (.ref W), some (.ref O), some (.int (0 + (k : Int))), z9, z10, z11]) ∧ Same HB H') ⟨⟨_, _, _, rfl⟩, Same.refl _⟩ (fun j σ H' _ h => SqL.hp (h.2 _ _ hB)) ?_ ?_
        · rintro j x σ H1 hx ⟨⟨z9, z10, z11, rfl⟩, s1⟩
          obtain ⟨b, rfl⟩ : ∃ b, x = .bl b := by
            match j, hx with
            | 0, hx => exact ⟨true, (Option.some.inj hx).symm⟩
            | 1, hx => exact ⟨false, (Option.some.inj hx).symm⟩
            | n + 2, hx => exact absurd hx (by simp)
          have sk1 := sk.trans (sB.trans s1)
          have sR1 := sB.trans s1
          refine ⟨_, rfl, W, rfl, ⟨_, SqL.hp (sk1 _ _ hW)⟩, ?_⟩
          refine for_list (K := K) (a := W) (xs := ws.map V.int) (fun l σ H' => (∃ z10, σ = [some (.ref a), some (.int (0 + (i : Int))), some (.ref p), some (.ref R), some (.ref o'), some (.int e), some (.ref W), some (.ref O), some (.int (0 + (k : Int))), some (.bl b), z10, z11]) ∧ Same H1 H') ⟨⟨_, rfl⟩, Same.refl _⟩ (fun l σ H' _ h => SqL.hp ((sk1.trans h.2) _ _ hW)) ?_ ?_
          · rintro l x σ H2 hx ⟨⟨z10, rfl⟩, s2⟩
            obtain ⟨m, hm, rfl⟩ := map_get hx
            have mw := List.mem_of_getElem? hm
            have bm := hwb m mw
            have mm : isMom (.int m) = true := isMom_iff.mpr bm
            have sR2 := sR1.trans s2
            have okn := nextB_ok (b := b) gus mm
            refine ⟨_, rfl, _, rfl, _, rfl, o', .int m, .int m, b, unionM false ps, rfl, isR.same sR2, gus, .int m, okD_small (by omega) (by omega), fun hf => absurd (mm.symm.trans hf) (by decide), fun m' em hm' ta H3 s3 hta => ?_⟩
            obtain rfl := PyData.int.inj em
            refine ⟨_, rfl, _, rfl, _, rfl, _, rfl, R, W, rs, ps, ws, m, b, rfl, SqL.hp ((sR2.trans s3) _ _ hR), pdR.same (sR2.trans s3), by omega, SqL.hp (((sk1.trans s2).trans s3) _ _ hW), hwb, fun tb H4 s4 htb => ?_⟩
            rw [show dueF ps ws m b = nextB b (unionM false ps) m from due_next gps wh mw b] at htb
            refine ⟨_, _, dp_strs (sameT s4 hta), dp_strs htb, shpP (by decide +kernel) okn.st, shpP (by decide +kernel) okn.st, _, rfl, iteFe (eqv_strs _ _) ?_⟩
            exact ⟨⟨_, rfl⟩, (s2.trans s3).trans s4⟩
          · rintro σ H2 ⟨⟨z10, rfl⟩, s2⟩
            have sk2 := sk1.trans s2
            refine ⟨_, rfl, O, rfl, ⟨_, SqL.hp (sk2 _ _ hO)⟩, ?_⟩
            refine for_list (K := K) (a := O) (xs := XS) (fun l σ H' => (∃ z11, σ = [some (.ref a), some (.int (0 + (i : Int))), some (.ref p), some (.ref R), some (.ref o'), some (.int e), some (.ref W), some (.ref O), some (.int (0 + (k : Int))), some (.bl b), z10, z11]) ∧ Same H2 H') ⟨⟨_, rfl⟩, Same.refl _⟩ (fun l σ H' _ h => SqL.hp ((sk2.trans h.2) _ _ hO)) ?_ ?_
            · rintro l x σ H3 hx ⟨⟨z11, rfl⟩, s3⟩
              obtain ⟨d, dx, okd, nm⟩ := (od x (List.mem_of_getElem? hx)).same (sk2.trans s3)
              have sR3 := (sR1.trans s2).trans s3
              refine ⟨_, rfl, _, rfl, _, rfl, o', x, d, b, unionM false ps, rfl, isR.same sR3, gus, dx, okd, fun hf ta H4 s4 hta => ?_, fun m' em hm' => absurd (nm.symm.trans hm') (by decide)⟩
              refine ⟨_, rfl, x, d, rfl, sameD s4 d dx, okd.sh, okd.nd, Nat.le_trans okd.dp (by decide), okd.ln, (by show 2 ≤ sizeLine; decide), fun tb ntb => ?_⟩
              refine ⟨_, _, dp_strs (sameT (Same.new ntb) hta), dp_strs (SqT.hp upd_same), shpP (by decide +kernel) okd.st, shpP (by decide +kernel) okd.st, _, rfl, iteFe (eqv_strs _ _) ?_⟩
              exact ⟨⟨_, rfl⟩, (s3.trans s4).trans (Same.new ntb)⟩
            · rintro σ H3 ⟨⟨z11, rfl⟩, s3⟩
              exact ⟨⟨_, _, _, rfl⟩, (s1.trans s2).trans s3⟩
        · rintro σ H1 ⟨⟨z9, z10, z11, rfl⟩, s1⟩
          have sR1 := sB.trans s1
          refine ⟨_, rfl, _, rfl, R, _, rfl, SqL.hp (sR1 _ _ hR), fun R2 n2 => ?_⟩
          have s2 := Same.new (o := .lst (cutV (rs.map V.ref) none (some 5))) n2
          have e5 : cutV (rs.map V.ref) none (some (5 : Int)) = (rs.take 5).map V.ref := cut_to (n := 5) rfl
          refine ⟨_, rfl, R2, rs.take 5, ps.take 5, rfl, .inl (SqL.hp (by rw [upd_same, e5])), ((pdR.same sR1).same s2).take 5, fun x hx => gps x (List.mem_of_mem_take hx), by rw [List.length_take]; omega, fun o2 H3 no2 s3 is3 => ?_⟩
          refine ⟨R2, o2, rs.take 5, ps.take 5, _, _, _, _, rfl, s3 _ _ (by rw [upd_same, e5]), (((pdR.same sR1).same s2).take 5).same s3, fun x hx => sub x (List.mem_of_mem_take hx), by rw [List.length_take]; omega, is3, sk.trans (sR1.trans (s2.trans s3))⟩
      · rintro σ H1 ⟨R, o', rs, ps, z8, z9, z10, z11, rfl, hR, pdR, sub, lps, isR, sk⟩
        exact ⟨⟨_, _, _, _, _, _, _, _, _, _, _, rfl⟩, sH12.trans sk⟩
    · rintro σ H5 ⟨⟨y1, y2, y3, y4, y5, y6, y7, y8, y9, y10, y11, rfl⟩, s5⟩
      exact q H5
end
section
theorem all_mk {l : PySem.W.OpenLaw} {w : World} {K : PySem.W.Frag} {h : Heap} {mg : Str → Option Value} {fa : Addr} {t_FIRST : Tok} {t_LAST : Tok} {t_FAR : Tok} {CE : Addr} {tE1 tE2 : Tok} {C_BadMoment fI_BadMoment NS_BadMoment : Addr} {nm_BadMoment qn_BadMoment : Str} {bs_BadMoment sub_BadMoment : List Value} {sn_BadMoment : List Str} {ab_BadMoment : Bool} {col_BadMoment : Option Bool} {dd_BadMoment : Option Addr} {m0_BadMoment m1_BadMoment m2_BadMoment m3_BadMoment m5_BadMoment : Option Value} {iod_BadMoment ian_BadMoment : Option Addr} {isl_BadMoment : Array (Option Value)} {ioc_BadMoment ikV_BadMoment idc_BadMoment ipm_BadMoment icd_BadMoment ict_BadMoment : Value} {CS CD : Addr} {f_is_number : Addr} {od_is_number an_is_number : Option Addr} {sl_is_number : Array (Option Value)} {oc_is_number kV_is_number dc_is_number pm_is_number cd_is_number ct_is_number : Value} {f_is_edge : Addr} {od_is_edge an_is_edge : Option Addr} {sl_is_edge : Array (Option Value)} {oc_is_edge kV_is_edge dc_is_edge pm_is_edge cd_is_edge ct_is_edge : Value} {f_is_moment : Addr} {od_is_moment an_is_moment : Option Addr} {sl_is_moment : Array (Option Value)} {oc_is_moment kV_is_moment dc_is_moment pm_is_moment cd_is_moment ct_is_moment : Value} {f_is_pair : Addr} {od_is_pair an_is_pair : Option Addr} {sl_is_pair : Array (Option Value)} {oc_is_pair kV_is_pair dc_is_pair pm_is_pair cd_is_pair ct_is_pair : Value} {f_is_stretch : Addr} {od_is_stretch an_is_stretch : Option Addr} {sl_is_stretch : Array (Option Value)} {oc_is_stretch kV_is_stretch dc_is_stretch pm_is_stretch cd_is_stretch ct_is_stretch : Value} {f_check_moment : Addr} {od_check_moment an_check_moment : Option Addr} {sl_check_moment : Array (Option Value)} {oc_check_moment kV_check_moment dc_check_moment pm_check_moment cd_check_moment ct_check_moment : Value} {f_check_ends : Addr} {od_check_ends an_check_ends : Option Addr} {sl_check_ends : Array (Option Value)} {oc_check_ends kV_check_ends dc_check_ends pm_check_ends cd_check_ends ct_check_ends : Value} {f_check_stretches : Addr} {od_check_stretches an_check_stretches : Option Addr} {sl_check_stretches : Array (Option Value)} {oc_check_stretches kV_check_stretches dc_check_stretches pm_check_stretches cd_check_stretches ct_check_stretches : Value} {f_is_empty : Addr} {od_is_empty an_is_empty : Option Addr} {sl_is_empty : Array (Option Value)} {oc_is_empty kV_is_empty dc_is_empty pm_is_empty cd_is_empty ct_is_empty : Value} {T_is_empty : Addr} {o_is_empty : Obj} {its_is_empty : List Value} {n_is_empty : Nat} {f_join_sorted : Addr} {od_join_sorted an_join_sorted : Option Addr} {sl_join_sorted : Array (Option Value)} {oc_join_sorted kV_join_sorted dc_join_sorted pm_join_sorted cd_join_sorted ct_join_sorted : Value} {f_union : Addr} {od_union an_union : Option Addr} {sl_union : Array (Option Value)} {oc_union kV_union dc_union pm_union cd_union ct_union : Value} {T_union : Addr} {o_union : Obj} {its_union : List Value} {n_union : Nat} {f_Span_init : Addr} {od_Span_init an_Span_init : Option Addr} {sl_Span_init : Array (Option Value)} {oc_Span_init kV_Span_init dc_Span_init pm_Span_init cd_Span_init ct_Span_init : Value} {f_Span_pair : Addr} {od_Span_pair an_Span_pair : Option Addr} {sl_Span_pair : Array (Option Value)} {oc_Span_pair kV_Span_pair dc_Span_pair pm_Span_pair cd_Span_pair ct_Span_pair : Value} {P_Span_pair : Addr} {rest_Span_pair : List Value} {f_Spread_init : Addr} {od_Spread_init an_Spread_init : Option Addr} {sl_Spread_init : Array (Option Value)} {oc_Spread_init kV_Spread_init dc_Spread_init pm_Spread_init cd_Spread_init ct_Spread_init : Value} {f_Spread_of : Addr} {od_Spread_of an_Spread_of : Option Addr} {sl_Spread_of : Array (Option Value)} {oc_Spread_of kV_Spread_of dc_Spread_of pm_Spread_of cd_Spread_of ct_Spread_of : Value} {P_Spread_of : Addr} {rest_Spread_of : List Value} {f_Spread_next_in : Addr} {od_Spread_next_in an_Spread_next_in : Option Addr} {sl_Spread_next_in : Array (Option Value)} {oc_Spread_next_in kV_Spread_next_in dc_Spread_next_in pm_Spread_next_in cd_Spread_next_in ct_Spread_next_in : Value} {f_Spread_next_out : Addr} {od_Spread_next_out an_Spread_next_out : Option Addr} {sl_Spread_next_out : Array (Option Value)} {oc_Spread_next_out kV_Spread_next_out dc_Spread_next_out pm_Spread_next_out cd_Spread_next_out ct_Spread_next_out : Value} {f_l_bag : Addr} {od_l_bag an_l_bag : Option Addr} {sl_l_bag : Array (Option Value)} {oc_l_bag kV_l_bag dc_l_bag pm_l_bag cd_l_bag ct_l_bag : Value} {f_l_take : Addr} {od_l_take an_l_take : Option Addr} {sl_l_take : Array (Option Value)} {oc_l_take kV_l_take dc_l_take pm_l_take cd_l_take ct_l_take : Value} {f_l_edge : Addr} {od_l_edge an_l_edge : Option Addr} {sl_l_edge : Array (Option Value)} {oc_l_edge kV_l_edge dc_l_edge pm_l_edge cd_l_edge ct_l_edge : Value} {f_l_stretch : Addr} {od_l_stretch an_l_stretch : Option Addr} {sl_l_stretch : Array (Option Value)} {oc_l_stretch kV_l_stretch dc_l_stretch pm_l_stretch cd_l_stretch ct_l_stretch : Value} {f_l_has : Addr} {od_l_has an_l_has : Option Addr} {sl_l_has : Array (Option Value)} {oc_l_has kV_l_has dc_l_has pm_l_has cd_l_has ct_l_has : Value} {f_l_moments : Addr} {od_l_moments an_l_moments : Option Addr} {sl_l_moments : Array (Option Value)} {oc_l_moments kV_l_moments dc_l_moments pm_l_moments cd_l_moments ct_l_moments : Value} {f_l_asked : Addr} {od_l_asked an_l_asked : Option Addr} {sl_l_asked : Array (Option Value)} {oc_l_asked kV_l_asked dc_l_asked pm_l_asked cd_l_asked ct_l_asked : Value} {f_l_due : Addr} {od_l_due an_l_due : Option Addr} {sl_l_due : Array (Option Value)} {oc_l_due kV_l_due dc_l_due pm_l_due cd_l_due ct_l_due : Value} {f_law : Addr} {od_law an_law : Option Addr} {sl_law : Array (Option Value)} {oc_law kV_law dc_law pm_law cd_law ct_law : Value} (X : K.In h) (G : h.Ns mainGlobals mg) (hfa : mg "law" = some (.ref fa))
    (z_abs : PySem.W.nsIn K mainGlobals "abs" = some none)
    (z_any : PySem.W.nsIn K mainGlobals "any" = some none)
    (z_bool : PySem.W.nsIn K mainGlobals "bool" = some none)
    (z_enumerate : PySem.W.nsIn K mainGlobals "enumerate" = some none)
    (z_int : PySem.W.nsIn K mainGlobals "int" = some none)
    (z_isinstance : PySem.W.nsIn K mainGlobals "isinstance" = some none)
    (z_len : PySem.W.nsIn K mainGlobals "len" = some none)
    (z_max : PySem.W.nsIn K mainGlobals "max" = some none)
    (z_min : PySem.W.nsIn K mainGlobals "min" = some none)
    (z_range : PySem.W.nsIn K mainGlobals "range" = some none)
    (z_repr : PySem.W.nsIn K mainGlobals "repr" = some none)
    (z_set : PySem.W.nsIn K mainGlobals "set" = some none)
    (z_sorted : PySem.W.nsIn K mainGlobals "sorted" = some none)
    (z_str : PySem.W.nsIn K mainGlobals "str" = some none)
    (z_tuple : PySem.W.nsIn K mainGlobals "tuple" = some none)
    (z_zip : PySem.W.nsIn K mainGlobals "zip" = some none)
    (c_FIRST : PySem.W.nsIn K mainGlobals "FIRST" = some (some (.int (-10000000000000000000000000000000) t_FIRST)))
    (c_LAST : PySem.W.nsIn K mainGlobals "LAST" = some (some (.int (10000000000000000000000000000000) t_LAST)))
    (c_FAR : PySem.W.nsIn K mainGlobals "FAR" = some (some (.int (1000000000000000000000000000000) t_FAR)))
    (e_g : PySem.W.nsIn K mainGlobals "Ends" = some (some (.ref CE)))
    (e_rd : PySem.W.readsIn K CE (.type "type") = true)
    (e_ga : PySem.W.specialIn K (.ref CE) "__getattribute__" = some (some (.builtin "type.__getattribute__")))
    (e_1 : PySem.W.findCls K (.ref CE) (.type "type") "HALF" = some (.val (.str "half" tE1)))
    (e_2 : PySem.W.findCls K (.ref CE) (.type "type") "SHUT" = some (.val (.str "shut" tE2)))
    (eg_BadMoment : PySem.W.nsIn K mainGlobals "BadMoment" = some (some (.ref C_BadMoment)))
    (ex_BadMoment : K.lookup C_BadMoment = some (excClassObj nm_BadMoment qn_BadMoment C_BadMoment NS_BadMoment bs_BadMoment [.type "ValueError", .type "Exception", .type "BaseException", .type "object"] true sn_BadMoment sub_BadMoment ab_BadMoment col_BadMoment dd_BadMoment m0_BadMoment m1_BadMoment m2_BadMoment m3_BadMoment m5_BadMoment "ValueError.__new__"))
    (esa_BadMoment : PySem.W.findIn K (.ref C_BadMoment) "__setattr__" = some (some (.builtin "object.__setattr__")))
    (ega_BadMoment : PySem.W.findIn K (.ref C_BadMoment) "__getattribute__" = some (some (.builtin "BaseException.__getattribute__")))
    (egg_BadMoment : PySem.W.findIn K (.ref C_BadMoment) "__getattr__" = some none)
    (enf_BadMoment : PySem.W.findIn K (.ref C_BadMoment) "moment" = some none)
    (ekC_BadMoment : PySem.W.keepIn K (.ref C_BadMoment) = true)
    (eeC_BadMoment : PySem.W.subIn K (.ref C_BadMoment) (.type "BaseException") = some true)
    (etC_BadMoment : PySem.W.typeIn K (.ref C_BadMoment) = some (.type "type"))
    (ehC_BadMoment : PySem.W.hasDictIn K C_BadMoment = true)
    (eiC_BadMoment : PySem.W.isClsIn K C_BadMoment = true)
    (esC_BadMoment : PySem.W.subIn K (.ref C_BadMoment) (.ref C_BadMoment) = some true)
    (eai_BadMoment : PySem.W.findIn K (.ref C_BadMoment) "__init__" = some (some (.ref fI_BadMoment)))
    (eti_BadMoment : PySem.W.typeIn K (.ref fI_BadMoment) = some (.type "function"))
    (eli_BadMoment : K.lookup fI_BadMoment = some ⟨ioc_BadMoment, iod_BadMoment, .func (PySem.W.fnOf "__init__" "BadMoment.__init__" (defArgs (inClass (topS 4) 0)) (defBody (inClass (topS 4) 0)) (defScope (inClass (topS 4) 0)) .none ikV_BadMoment idc_BadMoment ipm_BadMoment ian_BadMoment icd_BadMoment ict_BadMoment), isl_BadMoment⟩)
    (eci_BadMoment : PySem.W.codeIn K icd_BadMoment "BadMoment.__init__" = true)
    (eki_BadMoment : PySem.W.keepIn K (.ref fI_BadMoment) = true)
    (z_ValueError : PySem.W.nsIn K mainGlobals "ValueError" = some none)
    (ic_n : PySem.W.specialIn K (.builtin "object.__class__") "__get__" = some (some (.builtin "getset_descriptor.__get__")))
    (ic_t : PySem.W.takesIn K (.builtin "object.__class__") = some true)
    (ic_a_BadMoment : PySem.W.findIn K (.ref C_BadMoment) "__class__" = some (some (.builtin "object.__class__")))
    (ic_m_BadMoment : PySem.W.mroIn K C_BadMoment (.type "object") = some true)
    (ic_v_BadMoment : PySem.W.subIn K (.ref C_BadMoment) (.type "ValueError") = some true)
    (at_CS : PySem.W.nsIn K mainGlobals "Span" = some (some (.ref CS)))
    (pg_CS : PySem.W.plainGet K CS Str.empty = true)
    (hd_CS : PySem.W.hasDictIn K CS = true)
    (po_CS : PySem.W.plainOver K CS = true)
    (sa_CS : PySem.W.findIn K (.ref CS) "__setattr__" = some (some (.builtin "object.__setattr__")))
    (mk_CS : PySem.W.makesIn K CS = true)
    (kc_CS : PySem.W.keepIn K (.ref CS) = true)
    (no_CS_begin : PySem.W.findIn K (.ref CS) "begin" = some none)
    (no_CS_end : PySem.W.findIn K (.ref CS) "end" = some none)
    (ha_CS : PySem.W.findIn K (.ref CS) "__class__" = some (some (.builtin "object.__class__")))
    (hm_CS : PySem.W.mroIn K CS (.type "object") = some true)
    (at_CD : PySem.W.nsIn K mainGlobals "Spread" = some (some (.ref CD)))
    (pg_CD : PySem.W.plainGet K CD Str.empty = true)
    (hd_CD : PySem.W.hasDictIn K CD = true)
    (po_CD : PySem.W.plainOver K CD = true)
    (sa_CD : PySem.W.findIn K (.ref CD) "__setattr__" = some (some (.builtin "object.__setattr__")))
    (mk_CD : PySem.W.makesIn K CD = true)
    (kc_CD : PySem.W.keepIn K (.ref CD) = true)
    (no_CD_pairs : PySem.W.findIn K (.ref CD) "pairs" = some none)
    (rd_CD : PySem.W.readsIn K CD (.type "type") = true)
    (ga_CD : PySem.W.specialIn K (.ref CD) "__getattribute__" = some (some (.builtin "type.__getattribute__")))
    (a_is_number : PySem.W.nsIn K mainGlobals "is_number" = some (some (.ref f_is_number)))
    (l_is_number : K.lookup f_is_number = some ⟨oc_is_number, od_is_number, .func (PySem.W.fnOf "is_number" "is_number" (defArgs s_is_number) (defBody s_is_number) (defScope s_is_number) .none kV_is_number dc_is_number pm_is_number an_is_number cd_is_number ct_is_number), sl_is_number⟩)
    (c_is_number : PySem.W.codeIn K cd_is_number "is_number" = true)
    (k_is_number : PySem.W.keepIn K (.ref f_is_number) = true)
    (a_is_edge : PySem.W.nsIn K mainGlobals "is_edge" = some (some (.ref f_is_edge)))
    (l_is_edge : K.lookup f_is_edge = some ⟨oc_is_edge, od_is_edge, .func (PySem.W.fnOf "is_edge" "is_edge" (defArgs s_is_edge) (defBody s_is_edge) (defScope s_is_edge) .none kV_is_edge dc_is_edge pm_is_edge an_is_edge cd_is_edge ct_is_edge), sl_is_edge⟩)
    (c_is_edge : PySem.W.codeIn K cd_is_edge "is_edge" = true)
    (k_is_edge : PySem.W.keepIn K (.ref f_is_edge) = true)
    (a_is_moment : PySem.W.nsIn K mainGlobals "is_moment" = some (some (.ref f_is_moment)))
    (l_is_moment : K.lookup f_is_moment = some ⟨oc_is_moment, od_is_moment, .func (PySem.W.fnOf "is_moment" "is_moment" (defArgs s_is_moment) (defBody s_is_moment) (defScope s_is_moment) .none kV_is_moment dc_is_moment pm_is_moment an_is_moment cd_is_moment ct_is_moment), sl_is_moment⟩)
    (c_is_moment : PySem.W.codeIn K cd_is_moment "is_moment" = true)
    (k_is_moment : PySem.W.keepIn K (.ref f_is_moment) = true)
    (a_is_pair : PySem.W.nsIn K mainGlobals "is_pair" = some (some (.ref f_is_pair)))
    (l_is_pair : K.lookup f_is_pair = some ⟨oc_is_pair, od_is_pair, .func (PySem.W.fnOf "is_pair" "is_pair" (defArgs s_is_pair) (defBody s_is_pair) (defScope s_is_pair) .none kV_is_pair dc_is_pair pm_is_pair an_is_pair cd_is_pair ct_is_pair), sl_is_pair⟩)
    (c_is_pair : PySem.W.codeIn K cd_is_pair "is_pair" = true)
    (k_is_pair : PySem.W.keepIn K (.ref f_is_pair) = true)
    (a_is_stretch : PySem.W.nsIn K mainGlobals "is_stretch" = some (some (.ref f_is_stretch)))
    (l_is_stretch : K.lookup f_is_stretch = some ⟨oc_is_stretch, od_is_stretch, .func (PySem.W.fnOf "is_stretch" "is_stretch" (defArgs s_is_stretch) (defBody s_is_stretch) (defScope s_is_stretch) .none kV_is_stretch dc_is_stretch pm_is_stretch an_is_stretch cd_is_stretch ct_is_stretch), sl_is_stretch⟩)
    (c_is_stretch : PySem.W.codeIn K cd_is_stretch "is_stretch" = true)
    (k_is_stretch : PySem.W.keepIn K (.ref f_is_stretch) = true)
    (a_check_moment : PySem.W.nsIn K mainGlobals "check_moment" = some (some (.ref f_check_moment)))
    (l_check_moment : K.lookup f_check_moment = some ⟨oc_check_moment, od_check_moment, .func (PySem.W.fnOf "check_moment" "check_moment" (defArgs s_check_moment) (defBody s_check_moment) (defScope s_check_moment) .none kV_check_moment dc_check_moment pm_check_moment an_check_moment cd_check_moment ct_check_moment), sl_check_moment⟩)
    (c_check_moment : PySem.W.codeIn K cd_check_moment "check_moment" = true)
    (k_check_moment : PySem.W.keepIn K (.ref f_check_moment) = true)
    (a_check_ends : PySem.W.nsIn K mainGlobals "check_ends" = some (some (.ref f_check_ends)))
    (l_check_ends : K.lookup f_check_ends = some ⟨oc_check_ends, od_check_ends, .func (PySem.W.fnOf "check_ends" "check_ends" (defArgs s_check_ends) (defBody s_check_ends) (defScope s_check_ends) .none kV_check_ends dc_check_ends pm_check_ends an_check_ends cd_check_ends ct_check_ends), sl_check_ends⟩)
    (c_check_ends : PySem.W.codeIn K cd_check_ends "check_ends" = true)
    (k_check_ends : PySem.W.keepIn K (.ref f_check_ends) = true)
    (a_check_stretches : PySem.W.nsIn K mainGlobals "check_stretches" = some (some (.ref f_check_stretches)))
    (l_check_stretches : K.lookup f_check_stretches = some ⟨oc_check_stretches, od_check_stretches, .func (PySem.W.fnOf "check_stretches" "check_stretches" (defArgs s_check_stretches) (defBody s_check_stretches) (defScope s_check_stretches) .none kV_check_stretches dc_check_stretches pm_check_stretches an_check_stretches cd_check_stretches ct_check_stretches), sl_check_stretches⟩)
    (c_check_stretches : PySem.W.codeIn K cd_check_stretches "check_stretches" = true)
    (k_check_stretches : PySem.W.keepIn K (.ref f_check_stretches) = true)
    (a_is_empty : PySem.W.nsIn K mainGlobals "is_empty" = some (some (.ref f_is_empty)))
    (l_is_empty : K.lookup f_is_empty = some ⟨oc_is_empty, od_is_empty, .func (PySem.W.fnOf "is_empty" "is_empty" (defArgs s_is_empty) (defBody s_is_empty) (defScope s_is_empty) (.ref T_is_empty) kV_is_empty dc_is_empty pm_is_empty an_is_empty cd_is_empty ct_is_empty), sl_is_empty⟩)
    (c_is_empty : PySem.W.codeIn K cd_is_empty "is_empty" = true)
    (k_is_empty : PySem.W.keepIn K (.ref f_is_empty) = true)
    (T1_is_empty : K.lookup T_is_empty = some o_is_empty)
    (T2_is_empty : o_is_empty.data = .seq its_is_empty.toArray n_is_empty)
    (T3_is_empty : Vals [.str "half"] its_is_empty)
    (a_join_sorted : PySem.W.nsIn K mainGlobals "join_sorted" = some (some (.ref f_join_sorted)))
    (l_join_sorted : K.lookup f_join_sorted = some ⟨oc_join_sorted, od_join_sorted, .func (PySem.W.fnOf "join_sorted" "join_sorted" (defArgs s_join_sorted) (defBody s_join_sorted) (defScope s_join_sorted) .none kV_join_sorted dc_join_sorted pm_join_sorted an_join_sorted cd_join_sorted ct_join_sorted), sl_join_sorted⟩)
    (c_join_sorted : PySem.W.codeIn K cd_join_sorted "join_sorted" = true)
    (k_join_sorted : PySem.W.keepIn K (.ref f_join_sorted) = true)
    (a_union : PySem.W.nsIn K mainGlobals "union" = some (some (.ref f_union)))
    (l_union : K.lookup f_union = some ⟨oc_union, od_union, .func (PySem.W.fnOf "union" "union" (defArgs s_union) (defBody s_union) (defScope s_union) (.ref T_union) kV_union dc_union pm_union an_union cd_union ct_union), sl_union⟩)
    (c_union : PySem.W.codeIn K cd_union "union" = true)
    (k_union : PySem.W.keepIn K (.ref f_union) = true)
    (T1_union : K.lookup T_union = some o_union)
    (T2_union : o_union.data = .seq its_union.toArray n_union)
    (T3_union : Vals [.str "half"] its_union)
    (a_Span_init : PySem.W.findIn K (.ref CS) "__init__" = some (some (.ref f_Span_init)))
    (l_Span_init : K.lookup f_Span_init = some ⟨oc_Span_init, od_Span_init, .func (PySem.W.fnOf "__init__" "Span.__init__" (defArgs s_Span_init) (defBody s_Span_init) (defScope s_Span_init) .none kV_Span_init dc_Span_init pm_Span_init an_Span_init cd_Span_init ct_Span_init), sl_Span_init⟩)
    (c_Span_init : PySem.W.codeIn K cd_Span_init "Span.__init__" = true)
    (k_Span_init : PySem.W.keepIn K (.ref f_Span_init) = true)
    (i_Span_init : PySem.W.isFn K (.ref f_Span_init) = true)
    (a_Span_pair : PySem.W.findIn K (.ref CS) "pair" = some (some (.ref P_Span_pair)))
    (g_Span_pair : PySem.W.specialIn K (.ref P_Span_pair) "__get__" = some (some (.builtin "property.__get__")))
    (t_Span_pair : PySem.W.takesIn K (.ref P_Span_pair) = some true)
    (r_Span_pair : PySem.W.recIn K P_Span_pair "property" = some (.ref f_Span_pair :: rest_Span_pair))
    (l_Span_pair : K.lookup f_Span_pair = some ⟨oc_Span_pair, od_Span_pair, .func (PySem.W.fnOf "pair" "Span.pair" (defArgs s_Span_pair) (defBody s_Span_pair) (defScope s_Span_pair) .none kV_Span_pair dc_Span_pair pm_Span_pair an_Span_pair cd_Span_pair ct_Span_pair), sl_Span_pair⟩)
    (c_Span_pair : PySem.W.codeIn K cd_Span_pair "Span.pair" = true)
    (k_Span_pair : PySem.W.keepIn K (.ref f_Span_pair) = true)
    (a_Spread_init : PySem.W.findIn K (.ref CD) "__init__" = some (some (.ref f_Spread_init)))
    (l_Spread_init : K.lookup f_Spread_init = some ⟨oc_Spread_init, od_Spread_init, .func (PySem.W.fnOf "__init__" "Spread.__init__" (defArgs s_Spread_init) (defBody s_Spread_init) (defScope s_Spread_init) .none kV_Spread_init dc_Spread_init pm_Spread_init an_Spread_init cd_Spread_init ct_Spread_init), sl_Spread_init⟩)
    (c_Spread_init : PySem.W.codeIn K cd_Spread_init "Spread.__init__" = true)
    (k_Spread_init : PySem.W.keepIn K (.ref f_Spread_init) = true)
    (i_Spread_init : PySem.W.isFn K (.ref f_Spread_init) = true)
    (a_Spread_of : PySem.W.findCls K (.ref CD) (.type "type") "of" = some (.get (.builtin "staticmethod.__get__") (.ref P_Spread_of) .none (.ref CD)))
    (r_Spread_of : PySem.W.recIn K P_Spread_of "staticmethod" = some (.ref f_Spread_of :: rest_Spread_of))
    (l_Spread_of : K.lookup f_Spread_of = some ⟨oc_Spread_of, od_Spread_of, .func (PySem.W.fnOf "of" "Spread.of" (defArgs s_Spread_of) (defBody s_Spread_of) (defScope s_Spread_of) .none kV_Spread_of dc_Spread_of pm_Spread_of an_Spread_of cd_Spread_of ct_Spread_of), sl_Spread_of⟩)
    (c_Spread_of : PySem.W.codeIn K cd_Spread_of "Spread.of" = true)
    (k_Spread_of : PySem.W.keepIn K (.ref f_Spread_of) = true)
    (a_Spread_next_in : PySem.W.findIn K (.ref CD) "next_in" = some (some (.ref f_Spread_next_in)))
    (l_Spread_next_in : K.lookup f_Spread_next_in = some ⟨oc_Spread_next_in, od_Spread_next_in, .func (PySem.W.fnOf "next_in" "Spread.next_in" (defArgs s_Spread_next_in) (defBody s_Spread_next_in) (defScope s_Spread_next_in) .none kV_Spread_next_in dc_Spread_next_in pm_Spread_next_in an_Spread_next_in cd_Spread_next_in ct_Spread_next_in), sl_Spread_next_in⟩)
    (c_Spread_next_in : PySem.W.codeIn K cd_Spread_next_in "Spread.next_in" = true)
    (k_Spread_next_in : PySem.W.keepIn K (.ref f_Spread_next_in) = true)
    (i_Spread_next_in : PySem.W.isFn K (.ref f_Spread_next_in) = true)
    (a_Spread_next_out : PySem.W.findIn K (.ref CD) "next_out" = some (some (.ref f_Spread_next_out)))
    (l_Spread_next_out : K.lookup f_Spread_next_out = some ⟨oc_Spread_next_out, od_Spread_next_out, .func (PySem.W.fnOf "next_out" "Spread.next_out" (defArgs s_Spread_next_out) (defBody s_Spread_next_out) (defScope s_Spread_next_out) .none kV_Spread_next_out dc_Spread_next_out pm_Spread_next_out an_Spread_next_out cd_Spread_next_out ct_Spread_next_out), sl_Spread_next_out⟩)
    (c_Spread_next_out : PySem.W.codeIn K cd_Spread_next_out "Spread.next_out" = true)
    (k_Spread_next_out : PySem.W.keepIn K (.ref f_Spread_next_out) = true)
    (i_Spread_next_out : PySem.W.isFn K (.ref f_Spread_next_out) = true)
    (a_l_bag : PySem.W.nsIn K mainGlobals "_law_bag" = some (some (.ref f_l_bag)))
    (l_l_bag : K.lookup f_l_bag = some ⟨oc_l_bag, od_l_bag, .func (PySem.W.fnOf "_law_bag" "_law_bag" (defArgs s_l_bag) (defBody s_l_bag) (defScope s_l_bag) .none kV_l_bag dc_l_bag pm_l_bag an_l_bag cd_l_bag ct_l_bag), sl_l_bag⟩)
    (c_l_bag : PySem.W.codeIn K cd_l_bag "_law_bag" = true)
    (k_l_bag : PySem.W.keepIn K (.ref f_l_bag) = true)
    (a_l_take : PySem.W.nsIn K mainGlobals "_law_take" = some (some (.ref f_l_take)))
    (l_l_take : K.lookup f_l_take = some ⟨oc_l_take, od_l_take, .func (PySem.W.fnOf "_law_take" "_law_take" (defArgs s_l_take) (defBody s_l_take) (defScope s_l_take) .none kV_l_take dc_l_take pm_l_take an_l_take cd_l_take ct_l_take), sl_l_take⟩)
    (c_l_take : PySem.W.codeIn K cd_l_take "_law_take" = true)
    (k_l_take : PySem.W.keepIn K (.ref f_l_take) = true)
    (a_l_edge : PySem.W.nsIn K mainGlobals "_law_edge" = some (some (.ref f_l_edge)))
    (l_l_edge : K.lookup f_l_edge = some ⟨oc_l_edge, od_l_edge, .func (PySem.W.fnOf "_law_edge" "_law_edge" (defArgs s_l_edge) (defBody s_l_edge) (defScope s_l_edge) .none kV_l_edge dc_l_edge pm_l_edge an_l_edge cd_l_edge ct_l_edge), sl_l_edge⟩)
    (c_l_edge : PySem.W.codeIn K cd_l_edge "_law_edge" = true)
    (k_l_edge : PySem.W.keepIn K (.ref f_l_edge) = true)
    (a_l_stretch : PySem.W.nsIn K mainGlobals "_law_stretch" = some (some (.ref f_l_stretch)))
    (l_l_stretch : K.lookup f_l_stretch = some ⟨oc_l_stretch, od_l_stretch, .func (PySem.W.fnOf "_law_stretch" "_law_stretch" (defArgs s_l_stretch) (defBody s_l_stretch) (defScope s_l_stretch) .none kV_l_stretch dc_l_stretch pm_l_stretch an_l_stretch cd_l_stretch ct_l_stretch), sl_l_stretch⟩)
    (c_l_stretch : PySem.W.codeIn K cd_l_stretch "_law_stretch" = true)
    (k_l_stretch : PySem.W.keepIn K (.ref f_l_stretch) = true)
    (a_l_has : PySem.W.nsIn K mainGlobals "_law_has" = some (some (.ref f_l_has)))
    (l_l_has : K.lookup f_l_has = some ⟨oc_l_has, od_l_has, .func (PySem.W.fnOf "_law_has" "_law_has" (defArgs s_l_has) (defBody s_l_has) (defScope s_l_has) .none kV_l_has dc_l_has pm_l_has an_l_has cd_l_has ct_l_has), sl_l_has⟩)
    (c_l_has : PySem.W.codeIn K cd_l_has "_law_has" = true)
    (k_l_has : PySem.W.keepIn K (.ref f_l_has) = true)
    (a_l_moments : PySem.W.nsIn K mainGlobals "_law_moments" = some (some (.ref f_l_moments)))
    (l_l_moments : K.lookup f_l_moments = some ⟨oc_l_moments, od_l_moments, .func (PySem.W.fnOf "_law_moments" "_law_moments" (defArgs s_l_moments) (defBody s_l_moments) (defScope s_l_moments) .none kV_l_moments dc_l_moments pm_l_moments an_l_moments cd_l_moments ct_l_moments), sl_l_moments⟩)
    (c_l_moments : PySem.W.codeIn K cd_l_moments "_law_moments" = true)
    (k_l_moments : PySem.W.keepIn K (.ref f_l_moments) = true)
    (a_l_asked : PySem.W.nsIn K mainGlobals "_law_asked" = some (some (.ref f_l_asked)))
    (l_l_asked : K.lookup f_l_asked = some ⟨oc_l_asked, od_l_asked, .func (PySem.W.fnOf "_law_asked" "_law_asked" (defArgs s_l_asked) (defBody s_l_asked) (defScope s_l_asked) .none kV_l_asked dc_l_asked pm_l_asked an_l_asked cd_l_asked ct_l_asked), sl_l_asked⟩)
    (c_l_asked : PySem.W.codeIn K cd_l_asked "_law_asked" = true)
    (k_l_asked : PySem.W.keepIn K (.ref f_l_asked) = true)
    (a_l_due : PySem.W.nsIn K mainGlobals "_law_due" = some (some (.ref f_l_due)))
    (l_l_due : K.lookup f_l_due = some ⟨oc_l_due, od_l_due, .func (PySem.W.fnOf "_law_due" "_law_due" (defArgs s_l_due) (defBody s_l_due) (defScope s_l_due) .none kV_l_due dc_l_due pm_l_due an_l_due cd_l_due ct_l_due), sl_l_due⟩)
    (c_l_due : PySem.W.codeIn K cd_l_due "_law_due" = true)
    (k_l_due : PySem.W.keepIn K (.ref f_l_due) = true)
    (a_law : PySem.W.nsIn K mainGlobals "law" = some (some (.ref f_law)))
    (l_law : K.lookup f_law = some ⟨oc_law, od_law, .func (PySem.W.fnOf "law" "law" (defArgs s_law) (defBody s_law) (defScope s_law) .none kV_law dc_law pm_law an_law cd_law ct_law), sl_law⟩)
    (c_law : PySem.W.codeIn K cd_law "law" = true)
    (k_law : PySem.W.keepIn K (.ref f_law) = true)
    : ∃ fd : FuncData, (∀ (s : Shared) (v : Value), BindsTo s fd ⟨[v], []⟩ [("_law_script", v)]) ∧ ∀ bh : Heap, K.In bh → bh.Ns mainGlobals mg → FnG l.prog w K mg bh 10 fa fd ["_law_script"] (sp_law K) := by
  have e := hfa.symm.trans (PySem.W.mg_of X G a_law)
  cases e
  have B : Blt mg := ⟨PySem.W.mg_none_of X G z_abs, PySem.W.mg_none_of X G z_any, PySem.W.mg_none_of X G z_bool, PySem.W.mg_none_of X G z_enumerate, PySem.W.mg_none_of X G z_int, PySem.W.mg_none_of X G z_isinstance, PySem.W.mg_none_of X G z_len, PySem.W.mg_none_of X G z_max, PySem.W.mg_none_of X G z_min, PySem.W.mg_none_of X G z_range, PySem.W.mg_none_of X G z_repr, PySem.W.mg_none_of X G z_set, PySem.W.mg_none_of X G z_sorted, PySem.W.mg_none_of X G z_str, PySem.W.mg_none_of X G z_tuple, PySem.W.mg_none_of X G z_zip⟩
  have T : Txt K mg := ⟨⟨t_FIRST, PySem.W.mg_of X G c_FIRST⟩, ⟨t_LAST, PySem.W.mg_of X G c_LAST⟩, ⟨t_FAR, PySem.W.mg_of X G c_FAR⟩, ⟨⟨CE, .type "type", _, _, PySem.W.mg_of X G e_g, ⟨e_rd, e_ga⟩, ⟨e_1, ⟨_, rfl⟩⟩, ⟨e_2, ⟨_, rfl⟩⟩⟩⟩⟩
  have EF_BadMoment : ErrF K C_BadMoment "moment" := ⟨⟨nm_BadMoment, qn_BadMoment, NS_BadMoment, bs_BadMoment, _, sn_BadMoment, sub_BadMoment, ab_BadMoment, col_BadMoment, dd_BadMoment, m0_BadMoment, m1_BadMoment, m2_BadMoment, m3_BadMoment, m5_BadMoment, ex_BadMoment, by decide +kernel⟩, esa_BadMoment, ega_BadMoment, egg_BadMoment, enf_BadMoment, ekC_BadMoment, eeC_BadMoment, etC_BadMoment, ehC_BadMoment, eiC_BadMoment, esC_BadMoment⟩
  have FI_BadMoment := fun_mk (st := inClass (topS 4) 0) eli_BadMoment eci_BadMoment eki_BadMoment
  have bI_BadMoment := FI_BadMoment.binds (ps := ["self", "moment"]) fun _ _ _ _ _ _ us hl => match us, hl with | [_, _], _ => rfl
  have F_is_number := fun_mk (st := s_is_number) l_is_number c_is_number k_is_number
  have b_is_number := F_is_number.binds (ps := ["value"]) fun _ _ _ _ _ _ us hl => match us, hl with | [_], _ => rfl
  have F_is_edge := fun_mk (st := s_is_edge) l_is_edge c_is_edge k_is_edge
  have b_is_edge := F_is_edge.binds (ps := ["value"]) fun _ _ _ _ _ _ us hl => match us, hl with | [_], _ => rfl
  have F_is_moment := fun_mk (st := s_is_moment) l_is_moment c_is_moment k_is_moment
  have b_is_moment := F_is_moment.binds (ps := ["value"]) fun _ _ _ _ _ _ us hl => match us, hl with | [_], _ => rfl
  have F_is_pair := fun_mk (st := s_is_pair) l_is_pair c_is_pair k_is_pair
  have b_is_pair := F_is_pair.binds (ps := ["value"]) fun _ _ _ _ _ _ us hl => match us, hl with | [_], _ => rfl
  have F_is_stretch := fun_mk (st := s_is_stretch) l_is_stretch c_is_stretch k_is_stretch
  have b_is_stretch := F_is_stretch.binds (ps := ["value"]) fun _ _ _ _ _ _ us hl => match us, hl with | [_], _ => rfl
  have F_check_moment := fun_mk (st := s_check_moment) l_check_moment c_check_moment k_check_moment
  have b_check_moment := F_check_moment.binds (ps := ["moment"]) fun _ _ _ _ _ _ us hl => match us, hl with | [_], _ => rfl
  have F_check_ends := fun_mk (st := s_check_ends) l_check_ends c_check_ends k_check_ends
  have b_check_ends := F_check_ends.binds (ps := ["ends"]) fun _ _ _ _ _ _ us hl => match us, hl with | [_], _ => rfl
  have F_check_stretches := fun_mk (st := s_check_stretches) l_check_stretches c_check_stretches k_check_stretches
  have b_check_stretches := F_check_stretches.binds (ps := ["spans"]) fun _ _ _ _ _ _ us hl => match us, hl with | [_], _ => rfl
  have F_is_empty : FunD K "is_empty" "is_empty" (defArgs s_is_empty) (defBody s_is_empty) (defScope s_is_empty) [.str "half"] [] f_is_empty _ := ⟨⟨oc_is_empty, od_is_empty, .ref T_is_empty, kV_is_empty, dc_is_empty, pm_is_empty, an_is_empty, cd_is_empty, ct_is_empty, sl_is_empty, rfl, l_is_empty, c_is_empty, .inr ⟨(fun z => nomatch z), T_is_empty, o_is_empty, its_is_empty, n_is_empty, rfl, T1_is_empty, T2_is_empty, T3_is_empty⟩, .inl rfl⟩, k_is_empty⟩
  have b_is_empty := bindsFull (ps := ["pair", "ends"]) F_is_empty (fun z => nomatch z) fun _ _ _ _ _ _ _ us its h1 h2 => match us, its, h1, h2 with | [_, _], [_], _, _ => ⟨_, rfl, rfl⟩
  have b1_is_empty := FunD.binds1 (ps := ["pair", "ends"]) F_is_empty 1 0 (fun z => nomatch z) rfl fun _ _ _ _ _ _ _ us its h1 h2 => match us, its, h1, h2 with | [_], [_], _, _ => ⟨_, rfl, rfl⟩
  have F_join_sorted := fun_mk (st := s_join_sorted) l_join_sorted c_join_sorted k_join_sorted
  have b_join_sorted := F_join_sorted.binds (ps := ["spans"]) fun _ _ _ _ _ _ us hl => match us, hl with | [_], _ => rfl
  have F_union : FunD K "union" "union" (defArgs s_union) (defBody s_union) (defScope s_union) [.str "half"] [] f_union _ := ⟨⟨oc_union, od_union, .ref T_union, kV_union, dc_union, pm_union, an_union, cd_union, ct_union, sl_union, rfl, l_union, c_union, .inr ⟨(fun z => nomatch z), T_union, o_union, its_union, n_union, rfl, T1_union, T2_union, T3_union⟩, .inl rfl⟩, k_union⟩
  have b_union := bindsFull (ps := ["spans", "ends"]) F_union (fun z => nomatch z) fun _ _ _ _ _ _ _ us its h1 h2 => match us, its, h1, h2 with | [_, _], [_], _, _ => ⟨_, rfl, rfl⟩
  have b1_union := FunD.binds1 (ps := ["spans", "ends"]) F_union 1 0 (fun z => nomatch z) rfl fun _ _ _ _ _ _ _ us its h1 h2 => match us, its, h1, h2 with | [_], [_], _, _ => ⟨_, rfl, rfl⟩
  have F_Span_init := fun_mk (st := s_Span_init) l_Span_init c_Span_init k_Span_init
  have b_Span_init := F_Span_init.binds (ps := ["self", "begin", "end"]) fun _ _ _ _ _ _ us hl => match us, hl with | [_, _, _], _ => rfl
  have F_Span_pair := fun_mk (st := s_Span_pair) l_Span_pair c_Span_pair k_Span_pair
  have b_Span_pair := F_Span_pair.binds (ps := ["self"]) fun _ _ _ _ _ _ us hl => match us, hl with | [_], _ => rfl
  have F_Spread_init := fun_mk (st := s_Spread_init) l_Spread_init c_Spread_init k_Spread_init
  have F_Spread_of := fun_mk (st := s_Spread_of) l_Spread_of c_Spread_of k_Spread_of
  have b_Spread_of := F_Spread_of.binds (ps := ["spans"]) fun _ _ _ _ _ _ us hl => match us, hl with | [_], _ => rfl
  have F_Spread_next_in := fun_mk (st := s_Spread_next_in) l_Spread_next_in c_Spread_next_in k_Spread_next_in
  have b_Spread_next_in := F_Spread_next_in.binds (ps := ["self", "moment"]) fun _ _ _ _ _ _ us hl => match us, hl with | [_, _], _ => rfl
  have F_Spread_next_out := fun_mk (st := s_Spread_next_out) l_Spread_next_out c_Spread_next_out k_Spread_next_out
  have b_Spread_next_out := F_Spread_next_out.binds (ps := ["self", "moment"]) fun _ _ _ _ _ _ us hl => match us, hl with | [_, _], _ => rfl
  have F_l_bag := fun_mk (st := s_l_bag) l_l_bag c_l_bag k_l_bag
  have b_l_bag := F_l_bag.binds (ps := ["_law_script", "_law_at"]) fun _ _ _ _ _ _ us hl => match us, hl with | [_, _], _ => rfl
  have F_l_take := fun_mk (st := s_l_take) l_l_take c_l_take k_l_take
  have b_l_take := F_l_take.binds (ps := ["_law_bag_here", "_law_many"]) fun _ _ _ _ _ _ us hl => match us, hl with | [_, _], _ => rfl
  have F_l_edge := fun_mk (st := s_l_edge) l_l_edge c_l_edge k_l_edge
  have b_l_edge := F_l_edge.binds (ps := ["_law_bag_here"]) fun _ _ _ _ _ _ us hl => match us, hl with | [_], _ => rfl
  have F_l_stretch := fun_mk (st := s_l_stretch) l_l_stretch c_l_stretch k_l_stretch
  have b_l_stretch := F_l_stretch.binds (ps := ["_law_bag_here"]) fun _ _ _ _ _ _ us hl => match us, hl with | [_], _ => rfl
  have F_l_has := fun_mk (st := s_l_has) l_l_has c_l_has k_l_has
  have b_l_has := F_l_has.binds (ps := ["_law_rows", "_law_when"]) fun _ _ _ _ _ _ us hl => match us, hl with | [_, _], _ => rfl
  have F_l_moments := fun_mk (st := s_l_moments) l_l_moments c_l_moments k_l_moments
  have b_l_moments := F_l_moments.binds (ps := ["_law_pairs"]) fun _ _ _ _ _ _ us hl => match us, hl with | [_], _ => rfl
  have F_l_asked := fun_mk (st := s_l_asked) l_l_asked c_l_asked k_l_asked
  have b_l_asked := F_l_asked.binds (ps := ["_law_held", "_law_thing", "_law_is_in"]) fun _ _ _ _ _ _ us hl => match us, hl with | [_, _, _], _ => rfl
  have F_l_due := fun_mk (st := s_l_due) l_l_due c_l_due k_l_due
  have b_l_due := F_l_due.binds (ps := ["_law_rows", "_law_whens", "_law_when", "_law_is_in"]) fun _ _ _ _ _ _ us hl => match us, hl with | [_, _, _, _], _ => rfl
  have F_law := fun_mk (st := s_law) l_law c_law k_law
  refine ⟨PySem.W.fnOf "law" "law" (defArgs s_law) (defBody s_law) (defScope s_law) .none kV_law dc_law pm_law an_law cd_law ct_law, fun s v => .of_eq rfl, fun bh _ _ => ?_⟩
  have E_BadMoment : ErrT l.prog w K mg bh "BadMoment" "moment" C_BadMoment fI_BadMoment _ := EF_BadMoment.errT (PySem.W.mg_of X G eg_BadMoment) eai_BadMoment eti_BadMoment FI_BadMoment bI_BadMoment ⟨rfl, rfl, rfl, by decide +kernel, rfl, by decide +kernel, by decide +kernel⟩ (by rfl) (by decide +kernel) (by decide +kernel) (by rfl) (by rfl)
  have bV : mg "ValueError" = none := PySem.W.mg_none_of X G z_ValueError
  have IV : ErrV K C_BadMoment := ⟨EF_BadMoment.excC ic_a_BadMoment ic_n ic_t ic_m_BadMoment, kit_bin (by decide +kernel) ic_v_BadMoment⟩
  have SC : SpnC K CS := ⟨⟨pg_CS, hd_CS, po_CS, sa_CS⟩, no_CS_begin, no_CS_end, kit_self CS, ha_CS, ic_n, ic_t, hm_CS⟩
  have SD : SprC K CD := ⟨⟨pg_CD, hd_CD, po_CD, sa_CD⟩, no_CD_pairs⟩
  have gS : mg "Span" = some (.ref CS) := PySem.W.mg_of X G at_CS
  have R_is_number : Rdy l.prog w K mg bh "is_number" 1 ["value"] (sp_is_number K) f_is_number _ := ⟨ok_is_number B T  F_is_number, PySem.W.mg_of X G a_is_number, k_is_number, b_is_number⟩
  have R_is_edge : Rdy l.prog w K mg bh "is_edge" 2 ["value"] (sp_is_edge K) f_is_edge _ := ⟨ok_is_edge B T R_is_number F_is_edge, PySem.W.mg_of X G a_is_edge, k_is_edge, b_is_edge⟩
  have R_is_moment : Rdy l.prog w K mg bh "is_moment" 2 ["value"] (sp_is_moment K) f_is_moment _ := ⟨ok_is_moment B T R_is_number F_is_moment, PySem.W.mg_of X G a_is_moment, k_is_moment, b_is_moment⟩
  have R_is_pair : Rdy l.prog w K mg bh "is_pair" 3 ["value"] (sp_is_pair K) f_is_pair _ := ⟨ok_is_pair B T R_is_edge F_is_pair, PySem.W.mg_of X G a_is_pair, k_is_pair, b_is_pair⟩
  have R_is_stretch : Rdy l.prog w K mg bh "is_stretch" 4 ["value"] (sp_is_stretch K) f_is_stretch _ := ⟨ok_is_stretch B T R_is_pair F_is_stretch, PySem.W.mg_of X G a_is_stretch, k_is_stretch, b_is_stretch⟩
  have R_check_moment : RdyX l.prog w K mg bh "check_moment" 3 ["moment"] (sp_check_moment K C_BadMoment) f_check_moment _ := ⟨ok_check_moment B T E_BadMoment R_is_moment F_check_moment, PySem.W.mg_of X G a_check_moment, k_check_moment, b_check_moment⟩
  have R_check_ends : Rdy l.prog w K mg bh "check_ends" 1 ["ends"] (sp_check_ends K) f_check_ends _ := ⟨ok_check_ends B T  F_check_ends, PySem.W.mg_of X G a_check_ends, k_check_ends, b_check_ends⟩
  have R_check_stretches : Rdy l.prog w K mg bh "check_stretches" 5 ["spans"] (sp_check_stretches K) f_check_stretches _ := ⟨ok_check_stretches B T R_is_stretch F_check_stretches, PySem.W.mg_of X G a_check_stretches, k_check_stretches, b_check_stretches⟩
  have R_is_empty : RdyD l.prog w K mg bh "is_empty" 2 ["pair", "ends"] [.str "half"] (sp_is_empty K) f_is_empty _ := ⟨ok_is_empty B T R_check_ends F_is_empty, PySem.W.mg_of X G a_is_empty, k_is_empty, b_is_empty, b1_is_empty⟩
  have R_join_sorted : Rdy l.prog w K mg bh "join_sorted" 1 ["spans"] (sp_join_sorted K) f_join_sorted _ := ⟨ok_join_sorted B T  F_join_sorted, PySem.W.mg_of X G a_join_sorted, k_join_sorted, b_join_sorted⟩
  have R_union : RdyD l.prog w K mg bh "union" 6 ["spans", "ends"] [.str "half"] (sp_union K) f_union _ := ⟨ok_union B T R_check_stretches R_check_ends R_join_sorted R_is_empty F_union, PySem.W.mg_of X G a_union, k_union, b_union, b1_union⟩
  have RS : RdyMp l.prog w K mg bh "Span" CS 5 ["self", "begin", "end"] (sp_Span_init K CS) f_Span_init _ := ⟨ok_Span_init B T SC R_is_edge R_is_stretch F_Span_init, ⟨mk_CS, a_Span_init, i_Span_init, kc_CS⟩, PySem.W.mg_of X G at_CS, b_Span_init⟩
  have RP : RdyPr l.prog w K mg bh CS "pair" 1 (sp_Span_pair K CS) P_Span_pair f_Span_pair _ := ⟨ok_Span_pair B T SC F_Span_pair, ⟨a_Span_pair, g_Span_pair, t_Span_pair, rest_Span_pair, r_Span_pair⟩, b_Span_pair⟩
  have RM : RdyMs l.prog w K mg bh "Spread" CD 7 (spStar 1 (sp_Spread_init K CS CD)) f_Spread_init := ⟨ok_Spread_init B T SC SD gS RP R_union F_Spread_init, ⟨mk_CD, a_Spread_init, i_Spread_init, kc_CD⟩, PySem.W.mg_of X G at_CD⟩
  have RO : RdyS l.prog w K mg bh "Spread" CD "of" 9 (sp_Spread_of K CD) f_Spread_of := ⟨FnR.imp (FnOk.raw (ok_Spread_of B T RS RM R_union F_Spread_of) b_Spread_of .nil) (fun vs H Q E h => by rw [List.append_nil]; exact h), PySem.W.mg_of X G at_CD, .type "type", P_Spread_of, ⟨rd_CD, ga_CD⟩, ⟨a_Spread_of, ⟨rest_Spread_of, r_Spread_of⟩, k_Spread_of⟩⟩
  have RI : RdyMx l.prog w K mg bh CD "next_in" 5 ["self", "moment"] (sp_next_in K CD C_BadMoment) f_Spread_next_in _ := ⟨ok_Spread_next_in B T SD R_check_moment F_Spread_next_in, ⟨a_Spread_next_in, i_Spread_next_in, k_Spread_next_in⟩, b_Spread_next_in⟩
  have RU : RdyMx l.prog w K mg bh CD "next_out" 5 ["self", "moment"] (sp_next_out K CD C_BadMoment) f_Spread_next_out _ := ⟨ok_Spread_next_out B T SD R_check_moment F_Spread_next_out, ⟨a_Spread_next_out, i_Spread_next_out, k_Spread_next_out⟩, b_Spread_next_out⟩
  have R_l_bag : Rdy l.prog w K mg bh "_law_bag" 1 ["_law_script", "_law_at"] (sp_l_bag K) f_l_bag _ := ⟨ok_l_bag B T  F_l_bag, PySem.W.mg_of X G a_l_bag, k_l_bag, b_l_bag⟩
  have R_l_take : Rdy l.prog w K mg bh "_law_take" 1 ["_law_bag_here", "_law_many"] (sp_l_take K) f_l_take _ := ⟨ok_l_take B T  F_l_take, PySem.W.mg_of X G a_l_take, k_l_take, b_l_take⟩
  have R_l_edge : Rdy l.prog w K mg bh "_law_edge" 2 ["_law_bag_here"] (sp_l_edge K) f_l_edge _ := ⟨ok_l_edge B T R_l_take F_l_edge, PySem.W.mg_of X G a_l_edge, k_l_edge, b_l_edge⟩
  have R_l_stretch : Rdy l.prog w K mg bh "_law_stretch" 3 ["_law_bag_here"] (sp_l_stretch K) f_l_stretch _ := ⟨ok_l_stretch B T R_l_take R_l_edge F_l_stretch, PySem.W.mg_of X G a_l_stretch, k_l_stretch, b_l_stretch⟩
  have R_l_has : Rdy l.prog w K mg bh "_law_has" 1 ["_law_rows", "_law_when"] (sp_l_has K) f_l_has _ := ⟨ok_l_has B T  F_l_has, PySem.W.mg_of X G a_l_has, k_l_has, b_l_has⟩
  have R_l_moments : Rdy l.prog w K mg bh "_law_moments" 1 ["_law_pairs"] (sp_l_moments K) f_l_moments _ := ⟨ok_l_moments B T  F_l_moments, PySem.W.mg_of X G a_l_moments, k_l_moments, b_l_moments⟩
  have R_l_asked : RdyG l.prog w K mg bh "_law_asked" 6 ["_law_held", "_law_thing", "_law_is_in"] (sp_l_asked K CD) f_l_asked _ := ⟨ok_l_asked B bV T SD E_BadMoment IV RI RU F_l_asked, PySem.W.mg_of X G a_l_asked, k_l_asked, b_l_asked⟩
  have R_l_due : RdyG l.prog w K mg bh "_law_due" 2 ["_law_rows", "_law_whens", "_law_when", "_law_is_in"] (sp_l_due K) f_l_due _ := ⟨ok_l_due B T R_l_has F_l_due, PySem.W.mg_of X G a_l_due, k_l_due, b_l_due⟩
  exact ok_law B T RO R_l_bag R_l_edge R_l_stretch R_l_moments R_l_take R_l_asked R_l_due F_law
end
end Spk
open PySem PySem.W PyProof.Rows
set_option maxHeartbeats 0 in
theorem PySem.Challenge.cw_spanloops_k14_next_moments_holds : PySem.Challenge.rw_spanloops_k14_next_moments.Holds := by
  w_on; o_law; k_head; (case hw => w_witness2)
  k_fill
  refine Spk.walkG (l := PySem.Challenge.rw_spanloops_k14_next_moments) (n := 63) (k := 10) (x := "_law_script") (sp := fun w => Spk.sp_law _) rfl (by decide) rfl ⟨rfl, by decide, by decide⟩ (fun w h Y => PySem.W.kIn_of Y) ?F (fun _ _ a ns hl _ hS => ⟨a, ns, rfl, hS, hl, fun _ => rfl⟩)
  case F =>
    intro w mg fa h KX G hmg
    refine' Spk.all_mk KX G hmg ?z_abs ?z_any ?z_bool ?z_enumerate ?z_int ?z_isinstance ?z_len ?z_max ?z_min ?z_range ?z_repr ?z_set ?z_sorted ?z_str ?z_tuple ?z_zip ?c_FIRST ?c_LAST ?c_FAR ?e_g ?e_rd ?e_ga ?e_1 ?e_2 ?eg_BadMoment ?ex_BadMoment ?esa_BadMoment ?ega_BadMoment ?egg_BadMoment ?enf_BadMoment ?ekC_BadMoment ?eeC_BadMoment ?etC_BadMoment ?ehC_BadMoment ?eiC_BadMoment ?esC_BadMoment ?eai_BadMoment ?eti_BadMoment ?eli_BadMoment ?eci_BadMoment ?eki_BadMoment ?z_ValueError ?ic_n ?ic_t ?ic_a_BadMoment ?ic_m_BadMoment ?ic_v_BadMoment ?at_CS ?pg_CS ?hd_CS ?po_CS ?sa_CS ?mk_CS ?kc_CS ?no_CS_begin ?no_CS_end ?ha_CS ?hm_CS ?at_CD ?pg_CD ?hd_CD ?po_CD ?sa_CD ?mk_CD ?kc_CD ?no_CD_pairs ?rd_CD ?ga_CD ?a_is_number ?l_is_number ?c_is_number ?k_is_number ?a_is_edge ?l_is_edge ?c_is_edge ?k_is_edge ?a_is_moment ?l_is_moment ?c_is_moment ?k_is_moment ?a_is_pair ?l_is_pair ?c_is_pair ?k_is_pair ?a_is_stretch ?l_is_stretch ?c_is_stretch ?k_is_stretch ?a_check_moment ?l_check_moment ?c_check_moment ?k_check_moment ?a_check_ends ?l_check_ends ?c_check_ends ?k_check_ends ?a_check_stretches ?l_check_stretches ?c_check_stretches ?k_check_stretches ?a_is_empty ?l_is_empty ?c_is_empty ?k_is_empty ?T1_is_empty ?T2_is_empty ?T3_is_empty ?a_join_sorted ?l_join_sorted ?c_join_sorted ?k_join_sorted ?a_union ?l_union ?c_union ?k_union ?T1_union ?T2_union ?T3_union ?a_Span_init ?l_Span_init ?c_Span_init ?k_Span_init ?i_Span_init ?a_Span_pair ?g_Span_pair ?t_Span_pair ?r_Span_pair ?l_Span_pair ?c_Span_pair ?k_Span_pair ?a_Spread_init ?l_Spread_init ?c_Spread_init ?k_Spread_init ?i_Spread_init ?a_Spread_of ?r_Spread_of ?l_Spread_of ?c_Spread_of ?k_Spread_of ?a_Spread_next_in ?l_Spread_next_in ?c_Spread_next_in ?k_Spread_next_in ?i_Spread_next_in ?a_Spread_next_out ?l_Spread_next_out ?c_Spread_next_out ?k_Spread_next_out ?i_Spread_next_out ?a_l_bag ?l_l_bag ?c_l_bag ?k_l_bag ?a_l_take ?l_l_take ?c_l_take ?k_l_take ?a_l_edge ?l_l_edge ?c_l_edge ?k_l_edge ?a_l_stretch ?l_l_stretch ?c_l_stretch ?k_l_stretch ?a_l_has ?l_l_has ?c_l_has ?k_l_has ?a_l_moments ?l_l_moments ?c_l_moments ?k_l_moments ?a_l_asked ?l_l_asked ?c_l_asked ?k_l_asked ?a_l_due ?l_l_due ?c_l_due ?k_l_due ?a_law ?l_law ?c_law ?k_law
    (case z_abs => k_is)
    (case z_any => k_is)
    (case z_bool => k_is)
    (case z_enumerate => k_is)
    (case z_int => k_is)
    (case z_isinstance => k_is)
    (case z_len => k_is)
    (case z_max => k_is)
    (case z_min => k_is)
    (case z_range => k_is)
    (case z_repr => k_is)
    (case z_set => k_is)
    (case z_sorted => k_is)
    (case z_str => k_is)
    (case z_tuple => k_is)
    (case z_zip => k_is)
    (case c_FIRST => k_is)
    (case c_LAST => k_is)
    (case c_FAR => k_is)
    (case e_g => k_is)
    (case e_rd => k_is)
    (case e_ga => k_is)
    (case e_1 => k_is)
    (case e_2 => k_is)
    (case eg_BadMoment => k_is)
    (case ex_BadMoment => k_is)
    (case esa_BadMoment => k_is)
    (case ega_BadMoment => k_is)
    (case egg_BadMoment => k_is)
    (case enf_BadMoment => k_is)
    (case ekC_BadMoment => k_is)
    (case eeC_BadMoment => k_is)
    (case etC_BadMoment => k_is)
    (case ehC_BadMoment => k_is)
    (case eiC_BadMoment => k_is)
    (case esC_BadMoment => k_is)
    (case eai_BadMoment => k_is)
    (case eti_BadMoment => k_is)
    (case eli_BadMoment => k_is)
    (case eci_BadMoment => k_is)
    (case eki_BadMoment => k_is)
    (case z_ValueError => k_is)
    (case ic_n => k_is)
    (case ic_t => k_is)
    (case ic_a_BadMoment => k_is)
    (case ic_m_BadMoment => k_is)
    (case ic_v_BadMoment => k_is)
    (case at_CS => k_is)
    (case pg_CS => k_is)
    (case hd_CS => k_is)
    (case po_CS => k_is)
    (case sa_CS => k_is)
    (case mk_CS => k_is)
    (case kc_CS => k_is)
    (case no_CS_begin => k_is)
    (case no_CS_end => k_is)
    (case ha_CS => k_is)
    (case hm_CS => k_is)
    (case at_CD => k_is)
    (case pg_CD => k_is)
    (case hd_CD => k_is)
    (case po_CD => k_is)
    (case sa_CD => k_is)
    (case mk_CD => k_is)
    (case kc_CD => k_is)
    (case no_CD_pairs => k_is)
    (case rd_CD => k_is)
    (case ga_CD => k_is)
    (case a_is_number => k_is)
    (case l_is_number => k_is)
    (case c_is_number => k_is)
    (case k_is_number => k_is)
    (case a_is_edge => k_is)
    (case l_is_edge => k_is)
    (case c_is_edge => k_is)
    (case k_is_edge => k_is)
    (case a_is_moment => k_is)
    (case l_is_moment => k_is)
    (case c_is_moment => k_is)
    (case k_is_moment => k_is)
    (case a_is_pair => k_is)
    (case l_is_pair => k_is)
    (case c_is_pair => k_is)
    (case k_is_pair => k_is)
    (case a_is_stretch => k_is)
    (case l_is_stretch => k_is)
    (case c_is_stretch => k_is)
    (case k_is_stretch => k_is)
    (case a_check_moment => k_is)
    (case l_check_moment => k_is)
    (case c_check_moment => k_is)
    (case k_check_moment => k_is)
    (case a_check_ends => k_is)
    (case l_check_ends => k_is)
    (case c_check_ends => k_is)
    (case k_check_ends => k_is)
    (case a_check_stretches => k_is)
    (case l_check_stretches => k_is)
    (case c_check_stretches => k_is)
    (case k_check_stretches => k_is)
    (case a_is_empty => k_is)
    (case l_is_empty => k_is)
    (case c_is_empty => k_is)
    (case k_is_empty => k_is)
    (case T1_is_empty => k_is)
    (case T2_is_empty => first | rfl | k_is)
    (case T3_is_empty => exact .cons ⟨_, rfl⟩ .nil)
    (case a_join_sorted => k_is)
    (case l_join_sorted => k_is)
    (case c_join_sorted => k_is)
    (case k_join_sorted => k_is)
    (case a_union => k_is)
    (case l_union => k_is)
    (case c_union => k_is)
    (case k_union => k_is)
    (case T1_union => k_is)
    (case T2_union => first | rfl | k_is)
    (case T3_union => exact .cons ⟨_, rfl⟩ .nil)
    (case a_Span_init => k_is)
    (case l_Span_init => k_is)
    (case c_Span_init => k_is)
    (case k_Span_init => k_is)
    (case i_Span_init => k_is)
    (case a_Span_pair => k_is)
    (case g_Span_pair => k_is)
    (case t_Span_pair => k_is)
    (case r_Span_pair => k_is)
    (case l_Span_pair => k_is)
    (case c_Span_pair => k_is)
    (case k_Span_pair => k_is)
    (case a_Spread_init => k_is)
    (case l_Spread_init => k_is)
    (case c_Spread_init => k_is)
    (case k_Spread_init => k_is)
    (case i_Spread_init => k_is)
    (case a_Spread_of => k_is)
    (case r_Spread_of => k_is)
    (case l_Spread_of => k_is)
    (case c_Spread_of => k_is)
    (case k_Spread_of => k_is)
    (case a_Spread_next_in => k_is)
    (case l_Spread_next_in => k_is)
    (case c_Spread_next_in => k_is)
    (case k_Spread_next_in => k_is)
    (case i_Spread_next_in => k_is)
    (case a_Spread_next_out => k_is)
    (case l_Spread_next_out => k_is)
    (case c_Spread_next_out => k_is)
    (case k_Spread_next_out => k_is)
    (case i_Spread_next_out => k_is)
    (case a_l_bag => k_is)
    (case l_l_bag => k_is)
    (case c_l_bag => k_is)
    (case k_l_bag => k_is)
    (case a_l_take => k_is)
    (case l_l_take => k_is)
    (case c_l_take => k_is)
    (case k_l_take => k_is)
    (case a_l_edge => k_is)
    (case l_l_edge => k_is)
    (case c_l_edge => k_is)
    (case k_l_edge => k_is)
    (case a_l_stretch => k_is)
    (case l_l_stretch => k_is)
    (case c_l_stretch => k_is)
    (case k_l_stretch => k_is)
    (case a_l_has => k_is)
    (case l_l_has => k_is)
    (case c_l_has => k_is)
    (case k_l_has => k_is)
    (case a_l_moments => k_is)
    (case l_l_moments => k_is)
    (case c_l_moments => k_is)
    (case k_l_moments => k_is)
    (case a_l_asked => k_is)
    (case l_l_asked => k_is)
    (case c_l_asked => k_is)
    (case k_l_asked => k_is)
    (case a_l_due => k_is)
    (case l_l_due => k_is)
    (case c_l_due => k_is)
    (case k_l_due => k_is)
    (case a_law => k_is)
    (case l_law => k_is)
    (case c_law => k_is)
    (case k_law => k_is)
