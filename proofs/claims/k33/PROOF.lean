import PyProof.Rows.All
import Wide.All
import OpenK.AllK
import Wide.FinOn
import PySem.Challenge.RW_spanloops_k33_answers_wished
import HandS.ForMost
import HandS.Wide
import HandS.Walk
import HandS.SortRule
import HandS.Defaults
import HandS.IsInst
import HandS.ClsMeth
import HandS.TupLe
import KE.GoesMore
import HandS.MakeKwOnly
import HandS.Property
import KE.KRevSl
set_option Elab.async false
set_option linter.all false
set_option maxRecDepth 100000
set_option maxHeartbeats 4000000
namespace Spk
/-! ### pairs of edges, the union as a function on lists of pairs -/
abbrev Pr := Int × Int
def ple (p q : Pr) : Prop := p.1 < q.1 ∨ (p.1 = q.1 ∧ p.2 ≤ q.2)
instance (p q : Pr) : Decidable (ple p q) := inferInstanceAs (Decidable (_ ∨ _))
theorem ple_trans {p q r : Pr} (a : ple p q) (b : ple q r) : ple p r := by unfold ple at *; omega
theorem ple_total (p q : Pr) : ple p q ∨ ple q p := by unfold ple; omega
theorem ple_anti {p q : Pr} (a : ple p q) (b : ple q p) : p = q := by
  obtain ⟨x, y⟩ := p; obtain ⟨z, w⟩ := q
  simp only [ple] at a b
  have : x = z := by omega
  have : y = w := by omega
  subst x; subst y; rfl
theorem ple_refl (p : Pr) : ple p p := by unfold ple; omega
def ins (p : Pr) : List Pr → List Pr
  | [] => [p]
  | q :: r => if ple p q then p :: q :: r else q :: ins p r
def srt : List Pr → List Pr
  | [] => []
  | p :: r => ins p (srt r)
theorem ins_perm (p : Pr) : ∀ l, (ins p l).Perm (p :: l)
  | [] => .refl _
  | q :: r => by
    unfold ins
    split
    · exact .refl _
    · exact ((ins_perm p r).cons q).trans (List.Perm.swap p q r)
theorem srt_perm : ∀ l, (srt l).Perm l
  | [] => .refl _
  | p :: r => (ins_perm p _).trans ((srt_perm r).cons p)
theorem ins_sorted (p : Pr) : ∀ l, l.Pairwise ple → (ins p l).Pairwise ple
  | [], _ => by simp [ins]
  | q :: r, h => by
    unfold ins
    have hq := List.pairwise_cons.mp h
    split
    · rename_i c
      refine List.pairwise_cons.mpr ⟨fun y hy => ?_, h⟩
      rcases List.mem_cons.mp hy with e | hy
      · exact e ▸ c
      · exact ple_trans c (hq.1 y hy)
    · rename_i c
      refine List.pairwise_cons.mpr ⟨fun y hy => ?_, ins_sorted p r hq.2⟩
      have := (ins_perm p r).mem_iff.mp hy
      rcases List.mem_cons.mp this with e | hy
      · rw [e]; exact (ple_total p q).resolve_left c
      · exact hq.1 y hy
theorem srt_sorted : ∀ l, (srt l).Pairwise ple
  | [] => List.Pairwise.nil
  | p :: r => ins_sorted p _ (srt_sorted r)
theorem sorted_uniq : ∀ {l m : List Pr}, l.Pairwise ple → m.Pairwise ple → l.Perm m → l = m
  | [], m, _, _, h => (List.Perm.nil_eq h)
  | x :: l, [], _, _, h => absurd h.length_eq (by simp)
  | x :: l, y :: m, hl, hm, h => by
    have h1 := List.pairwise_cons.mp hl
    have h2 := List.pairwise_cons.mp hm
    have a : ple x y := by
      rcases List.mem_cons.mp (h.mem_iff.mpr (List.mem_cons_self (a := y) (l := m))) with e | q
      · rw [e]; exact ple_refl x
      · exact h1.1 y q
    have b : ple y x := by
      rcases List.mem_cons.mp (h.mem_iff.mp (List.mem_cons_self (a := x) (l := l))) with e | q
      · rw [e]; exact ple_refl y
      · exact h2.1 x q
    have e := ple_anti a b
    subst e
    rw [sorted_uniq h1.2 h2.2 h.cons_inv]
/-- one turn of join_sorted's loop -/
def stepJ (s : List Pr × Pr) (p : Pr) : List Pr × Pr :=
  if s.2.2 < p.1 then (s.1 ++ [s.2], p) else (s.1, (s.2.1, if s.2.2 < p.2 then p.2 else s.2.2))
def joinF : List Pr → List Pr
  | [] => []
  | p :: r => let s := (p :: r).foldl stepJ ([], p); s.1 ++ [s.2]
/-- the same by recursion -/
def joinG (c : Pr) : List Pr → List Pr
  | [] => [c]
  | p :: r => if c.2 < p.1 then c :: joinG p r else joinG (c.1, if c.2 < p.2 then p.2 else c.2) r
theorem fold_joinG : ∀ (l : List Pr) (acc : List Pr) (c : Pr), (let s := l.foldl stepJ (acc, c); s.1 ++ [s.2]) = acc ++ joinG c l
  | [], acc, c => rfl
  | p :: r, acc, c => by
    simp only [List.foldl_cons, joinG, stepJ]
    split
    · have := fold_joinG r (acc ++ [c]) p
      simp only at this
      rw [this, List.append_assoc]; rfl
    · have := fold_joinG r acc (c.1, if c.2 < p.2 then p.2 else c.2)
      simp only at this
      rw [this]
def joinM : List Pr → List Pr
  | [] => []
  | p :: r => joinG p (p :: r)
theorem joinF_eq : ∀ l, joinF l = joinM l
  | [] => rfl
  | p :: r => by
    have := fold_joinG (p :: r) [] p
    simp only [List.nil_append] at this
    exact this
def gapd : List Pr → Bool
  | [] => true
  | [_] => true
  | p :: q :: r => decide (p.2 < q.1) && gapd (q :: r)
/-- z: whether ends are read as shut -/
def emp (z : Bool) (p : Pr) : Bool := if z then decide (p.2 < p.1) else decide (p.2 ≤ p.1)
def unionM (z : Bool) (l : List Pr) : List Pr := joinM (srt (l.filter fun p => !emp z p))
def oneF (z : Bool) (l : List Pr) : Bool := l.all (fun p => !emp z p) && gapd l
theorem joinG_head : ∀ (l : List Pr) (c : Pr), ∃ h r, joinG c l = (c.1, h) :: r
  | [], c => ⟨c.2, [], rfl⟩
  | p :: r, c => by
    unfold joinG
    split
    · exact ⟨c.2, _, rfl⟩
    · exact joinG_head r (c.1, if c.2 < p.2 then p.2 else c.2)
theorem joinG_gapd : ∀ (l : List Pr) (c : Pr), gapd (joinG c l) = true
  | [], c => rfl
  | p :: r, c => by
    unfold joinG
    split
    · rename_i h
      obtain ⟨hh, rr, e⟩ := joinG_head r p
      have ih := joinG_gapd r p
      rw [e] at ih ⊢
      unfold gapd
      rw [ih, decide_eq_true (by exact h)]; rfl
    · exact joinG_gapd r _
theorem joinG_full {z : Bool} : ∀ (l : List Pr) (c : Pr), emp z c = false → (∀ p ∈ l, emp z p = false) → ∀ p ∈ joinG c l, emp z p = false
  | [], c, hc, _, p, hp => by
    rw [joinG] at hp
    obtain rfl : p = c := by simpa using hp
    exact hc
  | q :: r, c, hc, hl, p, hp => by
    unfold joinG at hp
    split at hp
    · rcases List.mem_cons.mp hp with e | hp
      · exact e ▸ hc
      · exact joinG_full r q (hl q (by simp)) (fun x hx => hl x (by simp [hx])) p hp
    · refine joinG_full r _ ?_ (fun x hx => hl x (by simp [hx])) p hp
      unfold emp at hc ⊢
      cases z <;> simp at hc ⊢ <;> split <;> omega
theorem joinM_one {z : Bool} {l : List Pr} (h : ∀ p ∈ l, emp z p = false) : oneF z (joinM l) = true := by
  cases l with
  | nil => rfl
  | cons p r =>
    unfold oneF joinM
    rw [joinG_gapd, Bool.and_true, List.all_eq_true]
    intro q hq
    rw [joinG_full (z := z) (p :: r) p (h p (by simp)) h q hq]; rfl
theorem joinG_id : ∀ (l : List Pr) (c : Pr), gapd (c :: l) = true → joinG c l = c :: l
  | [], c, _ => rfl
  | p :: r, c, h => by
    unfold gapd at h
    rw [Bool.and_eq_true, decide_eq_true_eq] at h
    unfold joinG
    rw [if_pos h.1, joinG_id r p h.2]
theorem joinM_id {l : List Pr} (h : gapd l = true) (hs : ∀ p ∈ l, p.1 ≤ p.2) : joinM l = l := by
  cases l with
  | nil => rfl
  | cons p r =>
    have : p.1 ≤ p.2 := hs p (by simp)
    show joinG p (p :: r) = p :: r
    unfold joinG
    rw [if_neg (show ¬ p.2 < p.1 by omega), if_neg (show ¬ p.2 < p.2 by omega)]
    exact joinG_id r p h
theorem gapd_tail {p : Pr} {r : List Pr} (h : gapd (p :: r) = true) : gapd r = true := by
  cases r with
  | nil => rfl
  | cons q r => unfold gapd at h; rw [Bool.and_eq_true] at h; exact h.2
theorem gapd_lt : ∀ {p : Pr} {r : List Pr}, gapd (p :: r) = true → (∀ q ∈ r, q.1 ≤ q.2) → ∀ q ∈ r, p.2 < q.1
  | p, [], _, _, q, hq => by simp at hq
  | p, q :: r, h, hs, x, hx => by
    unfold gapd at h
    rw [Bool.and_eq_true, decide_eq_true_eq] at h
    rcases List.mem_cons.mp hx with e | hx
    · exact e ▸ h.1
    · have := gapd_lt h.2 (fun y hy => hs y (by simp [hy])) x hx
      have := hs q (by simp)
      omega
theorem gapd_sorted : ∀ {l : List Pr}, gapd l = true → (∀ q ∈ l, q.1 ≤ q.2) → l.Pairwise ple
  | [], _, _ => .nil
  | p :: r, h, hs => List.pairwise_cons.mpr ⟨fun q hq => by
      have := gapd_lt h (fun y hy => hs y (by simp [hy])) q hq
      have := hs p (by simp)
      exact .inl (by omega), gapd_sorted (gapd_tail h) fun y hy => hs y (by simp [hy])⟩
/-- the union leaves a list as it is just where the list is in one form -/
theorem union_fix {z : Bool} {l : List Pr} (hs : ∀ p ∈ l, p.1 ≤ p.2) : unionM z l = l ↔ oneF z l = true := by
  constructor
  · intro h
    rw [← h]
    unfold unionM
    refine joinM_one fun p hp => ?_
    have := (srt_perm _).mem_iff.mp hp
    have := (List.mem_filter.mp this).2
    simpa using this
  · intro h
    unfold oneF at h
    rw [Bool.and_eq_true, List.all_eq_true] at h
    unfold unionM
    have e1 : l.filter (fun p => !emp z p) = l := List.filter_eq_self.mpr h.1
    have e2 : srt l = l := sorted_uniq (srt_sorted l) (gapd_sorted h.2 hs) (srt_perm l)
    rw [e1, e2, joinM_id h.2 hs]
end Spk

namespace Spk
/-! ### what a list of pairs covers, on a doubled line: (b, e) covers 2b .. 2e - 1, and 2e too if ends are shut -/
def covP (z : Bool) (p : Pr) (m : Int) : Prop := 2 * p.1 ≤ m ∧ m < 2 * p.2 + (if z then 1 else 0)
def cov (z : Bool) (l : List Pr) (m : Int) : Prop := ∃ p ∈ l, covP z p m
theorem cov_nil {z : Bool} {m : Int} : ¬ cov z [] m := fun ⟨_, h, _⟩ => by simp at h
theorem cov_cons {z : Bool} {p : Pr} {l : List Pr} {m : Int} : cov z (p :: l) m ↔ covP z p m ∨ cov z l m := by
  unfold cov; simp
theorem cov_app {z : Bool} {l k : List Pr} {m : Int} : cov z (l ++ k) m ↔ cov z l m ∨ cov z k m := by
  induction l with
  | nil => simp [cov_nil]
  | cons p r ih => rw [List.cons_append, cov_cons, cov_cons, ih, or_assoc]
theorem cov_perm {z : Bool} {l k : List Pr} (h : l.Perm k) {m : Int} : cov z l m ↔ cov z k m :=
  ⟨fun ⟨p, hp, c⟩ => ⟨p, h.mem_iff.mp hp, c⟩, fun ⟨p, hp, c⟩ => ⟨p, h.mem_iff.mpr hp, c⟩⟩
theorem emp_cov {z : Bool} {p : Pr} (h : emp z p = true) (m : Int) : ¬ covP z p m := by
  unfold emp at h; unfold covP
  cases z <;> simp at h ⊢ <;> omega
theorem full_cov {z : Bool} {p : Pr} (h : emp z p = false) : covP z p (2 * p.1) := by
  unfold emp at h; unfold covP
  cases z <;> simp at h ⊢ <;> omega
theorem cov_filter {z : Bool} {l : List Pr} {m : Int} : cov z (l.filter fun p => !emp z p) m ↔ cov z l m := by
  constructor
  · rintro ⟨p, hp, c⟩
    exact ⟨p, (List.mem_filter.mp hp).1, c⟩
  · rintro ⟨p, hp, c⟩
    refine ⟨p, List.mem_filter.mpr ⟨hp, ?_⟩, c⟩
    cases e : emp z p with
    | true => exact absurd c (emp_cov e m)
    | false => rfl
theorem cov_merge {z : Bool} {c p : Pr} (h1 : c.1 ≤ p.1) (h2 : p.1 ≤ c.2) {m : Int} : covP z (c.1, if c.2 < p.2 then p.2 else c.2) m ↔ covP z c m ∨ covP z p m := by
  unfold covP
  cases z <;> simp <;> split <;> omega
theorem cov_joinG {z : Bool} : ∀ (l : List Pr) (c : Pr), (∀ p ∈ l, c.1 ≤ p.1) → l.Pairwise ple → ∀ m, cov z (joinG c l) m ↔ covP z c m ∨ cov z l m
  | [], c, _, _, m => by simp [joinG, cov_cons, cov_nil]
  | p :: r, c, h, hs, m => by
    have hs' := List.pairwise_cons.mp hs
    have hle : ∀ q ∈ r, p.1 ≤ q.1 := fun q hq => by have := hs'.1 q hq; unfold ple at this; omega
    unfold joinG
    split
    · rw [cov_cons, cov_joinG r p hle hs'.2 m, cov_cons]
    · rename_i hn
      rw [cov_joinG r (c.1, if c.2 < p.2 then p.2 else c.2) (fun q hq => h q (by simp [hq])) hs'.2 m, cov_merge (h p (by simp)) (by omega), cov_cons, or_assoc]
theorem cov_joinM {z : Bool} {l : List Pr} (hs : l.Pairwise ple) (m : Int) : cov z (joinM l) m ↔ cov z l m := by
  cases l with
  | nil => rfl
  | cons p r =>
    have hs' := List.pairwise_cons.mp hs
    have hle : ∀ q ∈ p :: r, p.1 ≤ q.1 := fun q hq => by
      rcases List.mem_cons.mp hq with e | hq
      · rw [e]; exact Int.le_refl _
      · have := hs'.1 q hq; unfold ple at this; omega
    show cov z (joinG p (p :: r)) m ↔ _
    rw [cov_joinG (p :: r) p hle hs m, cov_cons]
    exact ⟨fun h => h.elim Or.inl id, Or.inr⟩
/-- the union covers what the list covers -/
theorem cov_union (z : Bool) (l : List Pr) (m : Int) : cov z (unionM z l) m ↔ cov z l m := by
  unfold unionM
  rw [cov_joinM (srt_sorted _), cov_perm (srt_perm _), cov_filter]
theorem union_one (z : Bool) (l : List Pr) : oneF z (unionM z l) = true := by
  unfold unionM
  refine joinM_one fun p hp => ?_
  have := (List.mem_filter.mp ((srt_perm _).mem_iff.mp hp)).2
  simpa using this
theorem oneF_cons {z : Bool} {p : Pr} {l : List Pr} (h : oneF z (p :: l) = true) : emp z p = false ∧ oneF z l = true ∧ gapd (p :: l) = true := by
  unfold oneF at h ⊢
  simp only [List.all_cons, Bool.and_eq_true] at h
  exact ⟨by simpa using h.1.1, by rw [Bool.and_eq_true]; exact ⟨h.1.2, gapd_tail h.2⟩, h.2⟩
theorem emp_le {z : Bool} {p : Pr} (h : emp z p = false) : p.1 ≤ p.2 := by
  unfold emp at h
  cases z <;> simp at h <;> omega
theorem oneF_le {z : Bool} {l : List Pr} (h : oneF z l = true) : ∀ q ∈ l, q.1 ≤ q.2 := fun q hq => by
  unfold oneF at h
  rw [Bool.and_eq_true, List.all_eq_true] at h
  exact emp_le (z := z) (by simpa using h.1 q hq)
/-- what stands behind the first pair of a list in one form lies beyond it -/
theorem cov_beyond {z : Bool} {p : Pr} {l : List Pr} (h : oneF z (p :: l) = true) {m : Int} (c : cov z l m) : 2 * p.2 + 1 < m := by
  obtain ⟨q, hq, c1, c2⟩ := c
  obtain ⟨_, h2, h3⟩ := oneF_cons h
  have := gapd_lt h3 (oneF_le h2) q hq
  omega
/-- a list in one form is told by what it covers -/
theorem one_uniq {z : Bool} : ∀ {l k : List Pr}, oneF z l = true → oneF z k = true → (∀ m, cov z l m ↔ cov z k m) → l = k
  | [], [], _, _, _ => rfl
  | [], q :: k, _, hk, h => absurd ((h (2 * q.1)).mpr (cov_cons.mpr (.inl (full_cov (oneF_cons hk).1)))) cov_nil
  | p :: l, [], hl, _, h => absurd ((h (2 * p.1)).mp (cov_cons.mpr (.inl (full_cov (oneF_cons hl).1)))) cov_nil
  | p :: l, q :: k, hl, hk, h => by
    obtain ⟨p1, p2, p3⟩ := oneF_cons hl
    obtain ⟨q1, q2, q3⟩ := oneF_cons hk
    have lp := emp_le p1
    have lq := emp_le q1
    have at_ : ∀ {p q : Pr} {l k : List Pr}, oneF z (p :: l) = true → oneF z (q :: k) = true → (∀ m, cov z (p :: l) m ↔ cov z (q :: k) m) → q.1 ≤ p.1 := by
      intro p q l k hl hk h
      obtain ⟨p1, _, _⟩ := oneF_cons hl
      obtain ⟨q1, _, _⟩ := oneF_cons hk
      have lq := emp_le q1
      rcases cov_cons.mp ((h (2 * p.1)).mp (cov_cons.mpr (.inl (full_cov p1)))) with c | c
      · have := c.1; omega
      · have := cov_beyond hk c; omega
    have e1 : p.1 = q.1 := by
      have a := at_ hl hk h
      have b := at_ hk hl fun m => (h m).symm
      omega
    have en : ∀ {p q : Pr} {l k : List Pr}, oneF z (p :: l) = true → oneF z (q :: k) = true → (∀ m, cov z (p :: l) m ↔ cov z (q :: k) m) → p.1 = q.1 → q.2 ≤ p.2 := by
      intro p q l k hl hk h e
      obtain ⟨p1, _, _⟩ := oneF_cons hl
      obtain ⟨q1, _, _⟩ := oneF_cons hk
      have lp := emp_le p1
      refine Classical.byContradiction fun hc => ?_
      have hx : cov z (q :: k) (2 * p.2 + 1) := cov_cons.mpr (.inl ⟨by omega, by split <;> omega⟩)
      rcases cov_cons.mp ((h _).mpr hx) with c | c
      · have := c.2
        cases z <;> simp at this
        omega
      · have := cov_beyond hl c; omega
    have e2 : p.2 = q.2 := by
      have a := en hl hk h e1
      have b := en hk hl (fun m => (h m).symm) e1.symm
      omega
    have e : p = q := Prod.ext e1 e2
    subst e
    rw [one_uniq p2 q2 fun m => ?_]
    constructor
    · intro c
      rcases cov_cons.mp ((h m).mp (cov_cons.mpr (.inr c))) with d | d
      · have := cov_beyond hl c
        have := d.2
        cases z <;> simp at this <;> omega
      · exact d
    · intro c
      rcases cov_cons.mp ((h m).mpr (cov_cons.mpr (.inr c))) with d | d
      · have := cov_beyond hk c
        have := d.2
        cases z <;> simp at this <;> omega
      · exact d
/-- two lists have the same union just if they cover the same -/
theorem union_eq_iff {z : Bool} {l k : List Pr} : unionM z l = unionM z k ↔ ∀ m, cov z l m ↔ cov z k m := by
  constructor
  · intro h m
    rw [← cov_union z l m, h, cov_union z k m]
  · intro h
    exact one_uniq (union_one z l) (union_one z k) fun m => by rw [cov_union, cov_union, h m]
/-- the union is a list in one form that covers the same -/
theorem union_is {z : Bool} {l k : List Pr} (hk : oneF z k = true) (h : ∀ m, cov z l m ↔ cov z k m) : unionM z l = k :=
  one_uniq (union_one z l) hk fun m => by rw [cov_union, h m]
end Spk
namespace Spk
theorem covP_cut {z : Bool} {b c e : Int} (h1 : b ≤ c) (h2 : c ≤ e) (m : Int) : covP z (c, e) m ∨ covP z (b, c) m ↔ covP z (b, e) m := by
  unfold covP
  cases z <;> simp <;> omega
theorem covP_sub {z : Bool} {b c d e : Int} (h1 : b ≤ c) (h2 : d ≤ e) {m : Int} (h : covP z (c, d) m) : covP z (b, e) m := by
  unfold covP at *
  cases z <;> simp at h ⊢ <;> omega
theorem cov_mix {z : Bool} (us ws : List Pr) (n : Nat) (m : Int) : cov z (us.take n ++ ws.take 1 ++ us.drop n ++ ws.drop 1) m ↔ cov z us m ∨ cov z ws m := by
  have a : cov z us m ↔ cov z (us.take n) m ∨ cov z (us.drop n) m := by rw [← cov_app, List.take_append_drop]
  have b : cov z ws m ↔ cov z (ws.take 1) m ∨ cov z (ws.drop 1) m := by rw [← cov_app, List.take_append_drop]
  rw [cov_app, cov_app, cov_app, a, b]
  constructor
  · rintro (((h | h) | h) | h)
    · exact .inl (.inl h)
    · exact .inr (.inl h)
    · exact .inl (.inr h)
    · exact .inr (.inr h)
  · rintro ((h | h) | (h | h))
    · exact .inl (.inl (.inl h))
    · exact .inl (.inr h)
    · exact .inl (.inl (.inr h))
    · exact .inr h
theorem cov_take_more {z : Bool} {l : List Pr} {i : Nat} {p : Pr} (h : l[i]? = some p) (m : Int) : cov z (l.take (i + 1)) m ↔ cov z (l.take i) m ∨ covP z p m := by
  rw [List.take_add_one, h, cov_app]
  show _ ∨ cov z [p] m ↔ _
  rw [cov_cons]
  simp [cov_nil]
theorem cov_two {z : Bool} {p q : Pr} {m : Int} : cov z [p, q] m ↔ covP z p m ∨ covP z q m := by
  rw [cov_cons, cov_cons]; simp [cov_nil]
theorem cov_single {z : Bool} {p : Pr} {m : Int} : cov z [p] m ↔ covP z p m := by
  rw [cov_cons]; simp [cov_nil]
end Spk
namespace Spk
theorem gapd_apart : ∀ {l : List Pr}, gapd l = true → (∀ q ∈ l, q.1 ≤ q.2) → ∀ p ∈ l, ∀ q ∈ l, p = q ∨ p.2 < q.1 ∨ q.2 < p.1
  | [], _, _, p, hp, _, _ => by simp at hp
  | x :: r, h, hs, p, hp, q, hq => by
    have ht := gapd_lt h (fun y hy => hs y (by simp [hy]))
    rcases List.mem_cons.mp hp with e1 | hp
    · rcases List.mem_cons.mp hq with e2 | hq
      · exact .inl (e1.trans e2.symm)
      · exact .inr (.inl (e1 ▸ ht q hq))
    · rcases List.mem_cons.mp hq with e2 | hq
      · exact .inr (.inr (e2 ▸ ht p hp))
      · exact gapd_apart (gapd_tail h) (fun y hy => hs y (by simp [hy])) p hp q hq
def hasAll (z : Bool) (l : List Pr) (s : Pr) : Bool := (!z && decide (s.1 = s.2)) || l.any fun p => decide (p.1 ≤ s.1) && decide (s.2 ≤ p.2)
theorem hasAll_iff {z : Bool} {l : List Pr} {s : Pr} (h : oneF z l = true) (hs : s.1 ≤ s.2) : hasAll z l s = true ↔ ∀ m, covP z s m → cov z l m := by
  constructor
  · intro h1 m hm
    unfold hasAll at h1
    simp only [Bool.or_eq_true, Bool.and_eq_true, decide_eq_true_eq, List.any_eq_true, Bool.not_eq_true'] at h1
    rcases h1 with ⟨e1, e2⟩ | ⟨p, hp, e1, e2⟩
    · subst e1
      unfold covP at hm
      simp at hm
      omega
    · exact ⟨p, hp, covP_sub e1 e2 hm⟩
  · intro h1
    unfold hasAll
    simp only [Bool.or_eq_true, Bool.and_eq_true, decide_eq_true_eq, List.any_eq_true, Bool.not_eq_true']
    by_cases c : z = false ∧ s.1 = s.2
    · exact .inl c
    · refine .inr ?_
      have hx : covP z s (2 * s.1) := by
        unfold covP
        cases z <;> simp at c ⊢ <;> omega
      obtain ⟨p, hp, c1, c2⟩ := h1 _ hx
      have hg : gapd l = true := by unfold oneF at h; rw [Bool.and_eq_true] at h; exact h.2
      have hle := oneF_le h
      refine ⟨p, hp, by omega, Classical.byContradiction fun hn => ?_⟩
      have hp2 : s.1 ≤ p.2 := by cases z <;> simp at c2 <;> omega
      have hy : covP z s (2 * p.2 + 1) := ⟨by omega, by split <;> omega⟩
      obtain ⟨q, hq, d1, d2⟩ := h1 _ hy
      have := hle p hp
      rcases gapd_apart hg hle p hp q hq with e | e | e
      · subst e
        cases z <;> simp at d2
        omega
      · omega
      · cases z <;> simp at d2 <;> omega
theorem joinG_len : ∀ (l : List Pr) (c : Pr), (joinG c l).length ≤ l.length + 1
  | [], c => Nat.le_refl _
  | p :: r, c => by
    unfold joinG
    split
    · have := joinG_len r p; simp; omega
    · have := joinG_len r (c.1, if c.2 < p.2 then p.2 else c.2); simp; omega
theorem joinM_len (l : List Pr) : (joinM l).length ≤ l.length + 1 := by
  cases l with
  | nil => exact Nat.zero_le _
  | cons p r => exact joinG_len (p :: r) p
theorem union_len (z : Bool) (l : List Pr) : (unionM z l).length ≤ l.length + 1 := by
  unfold unionM
  refine Nat.le_trans (joinM_len _) (Nat.succ_le_succ ?_)
  rw [(srt_perm _).length_eq]
  exact List.length_filter_le ..
theorem union_union (z : Bool) (l : List Pr) : unionM z (unionM z l) = unionM z l := union_is (union_one z l) fun _ => Iff.rfl
/-- a property of the pairs that joining keeps -/
theorem union_keeps {z : Bool} {G : Pr → Prop} (ext : ∀ c p : Pr, G c → G p → c.2 < p.2 → G (c.1, p.2)) {l : List Pr} (h : ∀ p ∈ l, G p) : ∀ p ∈ unionM z l, G p := by
  have jg : ∀ (l : List Pr) (c : Pr), G c → (∀ p ∈ l, G p) → ∀ p ∈ joinG c l, G p := by
    intro l
    induction l with
    | nil => intro c hc _ p hp; rw [joinG] at hp; exact (List.mem_singleton.mp hp) ▸ hc
    | cons q r ih =>
      intro c hc hl p hp
      unfold joinG at hp
      split at hp
      · rcases List.mem_cons.mp hp with e | hp
        · exact e ▸ hc
        · exact ih q (hl q (by simp)) (fun x hx => hl x (by simp [hx])) p hp
      · refine ih _ ?_ (fun x hx => hl x (by simp [hx])) p hp
        split
        · exact ext c q hc (hl q (by simp)) (by assumption)
        · exact hc
  have hl : ∀ p ∈ srt (l.filter fun p => !emp z p), G p := fun p hp => h p (List.mem_filter.mp ((srt_perm _).mem_iff.mp hp)).1
  unfold unionM
  generalize srt (l.filter fun p => !emp z p) = k at hl
  cases k with
  | nil => intro p hp; simp [joinM] at hp
  | cons q r => exact jg (q :: r) q (hl q (by simp)) hl
theorem any_filter {l : List Pr} {f : Pr → Bool} : (!decide (l.filter f = [])) = l.any f := by
  induction l with
  | nil => rfl
  | cons p r ih =>
    cases e : f p with
    | true => rw [List.filter_cons_of_pos e, List.any_cons, e]; simp
    | false => rw [List.filter_cons_of_neg (by rw [e]; decide), List.any_cons, e, Bool.false_or, ih]
end Spk
namespace Spk
theorem oneF_cons_mem {z : Bool} {l : List Pr} (h : oneF z l = true) {p : Pr} (hp : p ∈ l) : emp z p = false := by
  unfold oneF at h
  rw [Bool.and_eq_true, List.all_eq_true] at h
  simpa using h.1 p hp
end Spk

namespace Spk
/-! ### what the wishes for answers count -/
def mx (m n : Int) : Int := if n > m then n else m
def mn (m n : Int) : Int := if n < m then n else m
/-- have two stretches a moment in common -/
def meetB (z : Bool) (p q : Pr) : Bool := decide (mx p.1 q.1 < mn p.2 q.2) || (z && decide (mx p.1 q.1 = mn p.2 q.2))
theorem meet_emp (z : Bool) (p q : Pr) : meetB z p q = !emp z (mx p.1 q.1, mn p.2 q.2) := by
  unfold meetB emp
  rw [Bool.eq_iff_iff]
  cases z <;> simp <;> omega
theorem meet_symm {z : Bool} {p q : Pr} : meetB z p q = meetB z q p := by
  unfold meetB mx mn
  rw [Bool.eq_iff_iff]
  cases z <;> simp only [Bool.or_eq_true, Bool.and_eq_true, decide_eq_true_eq, Bool.false_and, Bool.true_and, Bool.false_eq_true, or_false] <;> (repeat' split) <;> omega
theorem meet_not {z : Bool} {p q : Pr} (h : emp z p = true ∨ emp z q = true) (hp : p.1 ≤ p.2) (hq : q.1 ≤ q.2) : meetB z p q = false := by
  rw [meet_emp]
  unfold emp mx mn at *
  rw [Bool.not_eq_false']
  cases z <;> simp only [Bool.false_eq_true, if_false, if_true, decide_eq_true_eq] at * <;> (repeat' split) <;> omega
theorem meet_srt {z : Bool} {p q : Pr} (h : q.1 ≤ p.1) (hp : emp z p = false) (hq : emp z q = false) : meetB z p q = !emp z (p.1, q.2) := by
  rw [meet_emp]
  congr 1
  rw [Bool.eq_iff_iff]
  unfold emp mx mn at *
  cases z <;> simp only [Bool.false_eq_true, if_false, if_true, decide_eq_true_eq, decide_eq_false_iff_not] at * <;> (repeat' split) <;> omega
/-- no two of them meet -/
def Apart (z : Bool) (ps : List Pr) : Prop := ps.Pairwise fun q p => meetB z p q = false
instance {z : Bool} {ps : List Pr} : Decidable (Apart z ps) := inferInstanceAs (Decidable (List.Pairwise _ _))
def clashB (z : Bool) (ps : List Pr) : Bool := !decide (Apart z ps)
theorem apart_perm {z : Bool} {l k : List Pr} (h : l.Perm k) : Apart z l ↔ Apart z k :=
  h.pairwise_iff fun {x y} e => by rw [meet_symm]; exact e
theorem apart_filter {z : Bool} {l : List Pr} (h : ∀ p ∈ l, p.1 ≤ p.2) : Apart z (l.filter fun p => !emp z p) ↔ Apart z l := by
  unfold Apart
  rw [List.pairwise_filter]
  constructor
  · intro k
    refine k.imp_of_mem fun {q p} hq hp r => ?_
    cases eq : emp z q with
    | true => exact meet_not (.inr eq) (h p hp) (h q hq)
    | false =>
      cases ep : emp z p with
      | true => exact meet_not (.inl ep) (h p hp) (h q hq)
      | false => exact r (by rw [eq]; rfl) (by rw [ep]; rfl)
  · intro k
    exact k.imp fun {q p} r _ _ => r
/-- the loop of has_clash -/
def clashF (z : Bool) : Int → List Pr → Bool
  | _, [] => false
  | r, p :: l => if (decide (r > -10000000000000000000000000000000) && !emp z (p.1, r)) = true then true else clashF z (mx r p.2) l
theorem emp_mx {z : Bool} {b x y : Int} : emp z (b, mx x y) = (emp z (b, x) && emp z (b, y)) := by
  rw [Bool.eq_iff_iff]
  unfold emp mx
  cases z <;> simp only [Bool.false_eq_true, if_false, if_true, Bool.and_eq_true, decide_eq_true_eq] <;> split <;> omega
theorem clashF_no {z : Bool} : ∀ (l : List Pr) (r : Int), (∀ p ∈ l, -10000000000000000000000000000000 < p.2) →
    (clashF z r l = false ↔ (∀ p ∈ l, r > -10000000000000000000000000000000 → emp z (p.1, r) = true) ∧ l.Pairwise fun q p => emp z (p.1, q.2) = true)
  | [], r, _ => by simp [clashF]
  | p :: l, r, h => by
    have hp := h p (by simp)
    have ih := clashF_no (z := z) l (mx r p.2) fun q hq => h q (by simp [hq])
    have g : mx r p.2 > -10000000000000000000000000000000 := by unfold mx; split <;> omega
    rw [List.pairwise_cons]
    unfold clashF
    by_cases c : (decide (r > -10000000000000000000000000000000) && !emp z (p.1, r)) = true
    · rw [if_pos c]
      refine ⟨(fun x => nomatch x), fun x => ?_⟩
      rw [Bool.and_eq_true, decide_eq_true_eq] at c
      have := x.1 p (by simp) c.1
      rw [this] at c
      exact absurd c.2 (by decide)
    · rw [if_neg c, ih]
      have c' : r > -10000000000000000000000000000000 → emp z (p.1, r) = true := fun hr => by
        cases e : emp z (p.1, r) with
        | true => rfl
        | false => exact absurd (by rw [e, decide_eq_true hr]; rfl) c
      constructor
      · rintro ⟨h1, h2⟩
        refine ⟨fun q hq hr => ?_, fun q hq => ?_, h2⟩
        · rcases List.mem_cons.mp hq with e | hq
          · rw [e]; exact c' hr
          · have := h1 q hq g
            rw [emp_mx, Bool.and_eq_true] at this
            exact this.1
        · have := h1 q hq g
          rw [emp_mx, Bool.and_eq_true] at this
          exact this.2
      · rintro ⟨h1, h2, h3⟩
        refine ⟨fun q hq _ => ?_, h3⟩
        rw [emp_mx, Bool.and_eq_true]
        refine ⟨?_, h2 q hq⟩
        by_cases hr : r > -10000000000000000000000000000000
        · exact h1 q (by simp [hq]) hr
        · have := h2 q hq
          have hh := h p (by simp)
          unfold emp at this ⊢
          cases z <;> simp only [Bool.false_eq_true, if_false, if_true, decide_eq_true_eq] at * <;> omega
theorem clash_is {z : Bool} {ps : List Pr} (h1 : ∀ p ∈ ps, p.1 ≤ p.2) (h2 : ∀ p ∈ ps, -10000000000000000000000000000000 < p.2) :
    clashF z (-10000000000000000000000000000000) (srt (ps.filter fun p => !emp z p)) = clashB z ps := by
  have hm : ∀ p ∈ srt (ps.filter fun p => !emp z p), p ∈ ps ∧ emp z p = false := fun p hp => by
    have := List.mem_filter.mp ((srt_perm _).mem_iff.mp hp)
    exact ⟨this.1, by simpa using this.2⟩
  have e : clashF z (-10000000000000000000000000000000) (srt (ps.filter fun p => !emp z p)) = false ↔ Apart z ps := by
    rw [clashF_no _ _ fun p hp => h2 p (hm p hp).1, ← apart_filter h1, ← apart_perm (srt_perm _)]
    constructor
    · rintro ⟨_, k⟩
      refine List.Pairwise.imp_of_mem (fun {q p} hq hp r => ?_) (k.and (srt_sorted _))
      have hle : q.1 ≤ p.1 := by have := r.2; unfold ple at this; omega
      rw [meet_srt hle (hm p hp).2 (hm q hq).2, r.1]; rfl
    · intro k
      refine ⟨fun p _ c => absurd c (by decide), List.Pairwise.imp_of_mem (fun {q p} hq hp r => ?_) (List.Pairwise.and k (srt_sorted _))⟩
      have hle : q.1 ≤ p.1 := by have := r.2; unfold ple at this; omega
      have := r.1
      rw [meet_srt hle (hm p hp).2 (hm q hq).2] at this
      simpa using this
  unfold clashB
  cases c : clashF z (-10000000000000000000000000000000) (srt (ps.filter fun p => !emp z p)) with
  | false => rw [decide_eq_true (e.mp c)]; rfl
  | true => rw [decide_eq_false fun x => by rw [e.mpr x] at c; cases c]; rfl
theorem clash_rev {z : Bool} {ps : List Pr} : clashB z ps.reverse = clashB z ps := by
  unfold clashB
  congr 1
  exact decide_eq_decide.mpr (apart_perm (List.reverse_perm ps))
/-- one more pair behind -/
theorem apart_take {z : Bool} {ps : List Pr} {k : Nat} {p : Pr} (h : ps[k]? = some p) : Apart z (ps.take (k + 1)) ↔ Apart z (ps.take k) ∧ ((ps.take k).any fun q => meetB z p q) = false := by
  have e : ps.take (k + 1) = ps.take k ++ [p] := by rw [List.take_add_one, h]; rfl
  unfold Apart
  rw [e, List.pairwise_append]
  simp only [List.pairwise_cons, List.not_mem_nil, false_imp_iff, implies_true, List.Pairwise.nil, and_true, List.mem_singleton, forall_eq, true_and, List.any_eq_false, Bool.not_eq_true]
/-! ### the law's own pieces -/
def pcGo : List Pr → Pr → List Pr × Pr
  | [], c => ([], c)
  | o :: r, c => if o.2 < c.1 ∨ c.2 < o.1 then (o :: (pcGo r c).1, (pcGo r c).2) else pcGo r (mn c.1 o.1, mx c.2 o.2)
def pcS (s : List Pr × Pr) (o : Pr) : List Pr × Pr := if o.2 < s.2.1 ∨ s.2.2 < o.1 then (s.1 ++ [o], s.2) else (s.1, (mn s.2.1 o.1, mx s.2.2 o.2))
theorem pcS_go : ∀ (l : List Pr) (a : List Pr) (c : Pr), l.foldl pcS (a, c) = (a ++ (pcGo l c).1, (pcGo l c).2)
  | [], a, c => by simp [pcGo]
  | o :: r, a, c => by
    rw [List.foldl_cons]
    unfold pcGo
    by_cases h : o.2 < c.1 ∨ c.2 < o.1
    · rw [if_pos h, show pcS (a, c) o = (a ++ [o], c) from if_pos h, pcS_go r (a ++ [o]) c]
      simp
    · rw [if_neg h, show pcS (a, c) o = (a, (mn c.1 o.1, mx c.2 o.2)) from if_neg h, pcS_go r a _]
def pcStep (z : Bool) (found : List Pr) (p : Pr) : List Pr := if (z || decide (p.1 < p.2)) = true then srt ((pcGo found p).1 ++ [(pcGo found p).2]) else found
def pieces (z : Bool) (ps : List Pr) : List Pr := ps.foldl (pcStep z) []
theorem pcGo_low {m : Int} : ∀ (l : List Pr) (c : Pr), (∀ o ∈ l, m < o.1) → m < c.1 → m < (pcGo l c).2.1
  | [], c, _, h => h
  | o :: r, c, hl, h => by
    unfold pcGo
    split
    · exact pcGo_low r c (fun x hx => hl x (by simp [hx])) h
    · refine pcGo_low r _ (fun x hx => hl x (by simp [hx])) ?_
      have := hl o (by simp)
      show m < mn c.1 o.1
      unfold mn; split <;> omega
theorem pcGo_far : ∀ (l : List Pr) (c : Pr), (∀ o ∈ l, c.2 < o.1) → pcGo l c = (l, c)
  | [], c, _ => rfl
  | o :: r, c, hl => by
    unfold pcGo
    rw [if_pos (.inr (hl o (by simp))), pcGo_far r c fun x hx => hl x (by simp [hx])]
theorem pcGo_sub : ∀ (l : List Pr) (c : Pr), (pcGo l c).1.Sublist l
  | [], c => .slnil
  | o :: r, c => by
    unfold pcGo
    split
    · exact (pcGo_sub r c).cons_cons o
    · exact (pcGo_sub r _).cons o
theorem pcGo_full {z : Bool} : ∀ (l : List Pr) (c : Pr), emp z c = false → emp z (pcGo l c).2 = false
  | [], c, h => h
  | o :: r, c, h => by
    unfold pcGo
    split
    · exact pcGo_full r c h
    · refine pcGo_full r _ ?_
      unfold emp mn mx at *
      cases z <;> simp only [Bool.false_eq_true, if_false, if_true, decide_eq_false_iff_not] at * <;> (repeat' split) <;> omega
def sep (a b : Pr) : Prop := a.2 < b.1 ∨ b.2 < a.1
theorem pcGo_sep : ∀ (l : List Pr) (c : Pr), gapd l = true → (∀ q ∈ l, q.1 ≤ q.2) → ∀ o ∈ (pcGo l c).1, sep o (pcGo l c).2
  | [], c, _, _, o, h => by simp [pcGo] at h
  | q :: r, c, g, hs, o, h => by
    have gr := gapd_tail g
    have hr : ∀ x ∈ r, x.1 ≤ x.2 := fun x hx => hs x (by simp [hx])
    have lt := gapd_lt g hr
    unfold pcGo at h ⊢
    split
    · rename_i hc
      rw [if_pos hc] at h
      rcases List.mem_cons.mp h with e | h
      · subst e
        rcases hc with hc | hc
        · exact .inl (pcGo_low r c lt hc)
        · rw [pcGo_far r c fun x hx => by have := lt x hx; have := hs o (by simp); omega]
          exact .inr hc
      · exact pcGo_sep r c gr hr o h
    · rename_i hc
      rw [if_neg hc] at h
      exact pcGo_sep r _ gr hr o h
theorem cov_mnx {z : Bool} {c o : Pr} (h1 : c.1 ≤ o.2) (h2 : o.1 ≤ c.2) (h3 : c.1 ≤ c.2) (h4 : o.1 ≤ o.2) {m : Int} : covP z (mn c.1 o.1, mx c.2 o.2) m ↔ covP z o m ∨ covP z c m := by
  unfold covP mn mx
  cases z <;> simp only [Bool.false_eq_true, if_false, if_true] <;> (repeat' split) <;> omega
theorem pcGo_cov {z : Bool} : ∀ (l : List Pr) (c : Pr), (∀ q ∈ l, q.1 ≤ q.2) → c.1 ≤ c.2 → ∀ m, (cov z (pcGo l c).1 m ∨ covP z (pcGo l c).2 m) ↔ (cov z l m ∨ covP z c m)
  | [], c, _, _, m => Iff.rfl
  | o :: r, c, hs, hc, m => by
    have hr : ∀ x ∈ r, x.1 ≤ x.2 := fun x hx => hs x (by simp [hx])
    have ho := hs o (by simp)
    unfold pcGo
    split
    · rw [cov_cons, cov_cons, or_assoc, or_assoc, pcGo_cov r c hr hc m]
    · rename_i h
      have h1 : c.1 ≤ o.2 ∧ o.1 ≤ c.2 := by omega
      rw [pcGo_cov r _ hr (by show mn c.1 o.1 ≤ mx c.2 o.2; unfold mn mx; (repeat' split) <;> omega) m, cov_mnx h1.1 h1.2 hc ho, cov_cons]
      constructor
      · rintro (a | a | a)
        · exact .inl (.inr a)
        · exact .inl (.inl a)
        · exact .inr a
      · rintro ((a | a) | a)
        · exact .inr (.inl a)
        · exact .inl a
        · exact .inr (.inr a)
theorem gapd_sep : ∀ {l : List Pr}, l.Pairwise ple → l.Pairwise sep → (∀ q ∈ l, q.1 ≤ q.2) → gapd l = true
  | [], _, _, _ => rfl
  | [_], _, _, _ => rfl
  | p :: q :: r, h1, h2, hs => by
    have a := (List.pairwise_cons.mp h1).1 q (by simp)
    have b := (List.pairwise_cons.mp h2).1 q (by simp)
    have hq := hs q (by simp)
    unfold gapd
    rw [gapd_sep (List.pairwise_cons.mp h1).2 (List.pairwise_cons.mp h2).2 fun x hx => hs x (by simp [hx]), Bool.and_true, decide_eq_true_eq]
    unfold ple at a
    unfold sep at b
    omega
theorem gapd_pw : ∀ {l : List Pr}, gapd l = true → (∀ q ∈ l, q.1 ≤ q.2) → l.Pairwise sep
  | [], _, _ => .nil
  | p :: r, g, hs => List.pairwise_cons.mpr ⟨fun q hq => .inl (gapd_lt g (fun x hx => hs x (by simp [hx])) q hq), gapd_pw (gapd_tail g) fun x hx => hs x (by simp [hx])⟩
theorem sep_symm {a b : Pr} (h : sep a b) : sep b a := h.symm
theorem pcStep_ok {z : Bool} {f : List Pr} {p : Pr} (h : oneF z f = true) (hp : p.1 ≤ p.2) : oneF z (pcStep z f p) = true ∧ ∀ m, cov z (pcStep z f p) m ↔ cov z f m ∨ covP z p m := by
  have hf := oneF_le h
  have h' := h
  unfold oneF at h
  rw [Bool.and_eq_true, List.all_eq_true] at h
  unfold pcStep
  by_cases c : (z || decide (p.1 < p.2)) = true
  · rw [if_pos c]
    have hpe : emp z p = false := by
      unfold emp
      cases z <;> simp at c ⊢ <;> omega
    have sub := pcGo_sub f p
    have full := pcGo_full f p hpe
    have mem : ∀ x ∈ srt ((pcGo f p).1 ++ [(pcGo f p).2]), emp z x = false := fun x hx => by
      rcases List.mem_append.mp ((srt_perm _).mem_iff.mp hx) with y | y
      · simpa using h.1 x (sub.subset y)
      · rw [List.mem_singleton.mp y]; exact full
    refine ⟨?_, fun m => ?_⟩
    · unfold oneF
      rw [Bool.and_eq_true, List.all_eq_true]
      refine ⟨fun x hx => by rw [mem x hx]; rfl, gapd_sep (srt_sorted _) ?_ fun x hx => emp_le (mem x hx)⟩
      refine ((srt_perm _).pairwise_iff fun {x y} e => sep_symm e).mpr ?_
      rw [List.pairwise_append]
      exact ⟨(gapd_pw h.2 hf).sublist sub, by simp, fun a ha b hb => by rw [List.mem_singleton.mp hb]; exact pcGo_sep f p h.2 hf a ha⟩
    · rw [cov_perm (srt_perm _), cov_app, cov_cons, ← pcGo_cov f p hf hp m]
      simp [cov_nil]
  · rw [if_neg c]
    refine ⟨h', fun m => ⟨Or.inl, fun x => x.elim id fun y => absurd y (emp_cov ?_ m)⟩⟩
    unfold emp
    cases z <;> simp at c ⊢ <;> omega
theorem pieces_ok {z : Bool} : ∀ (ps : List Pr) (f : List Pr), oneF z f = true → (∀ p ∈ ps, p.1 ≤ p.2) → oneF z (ps.foldl (pcStep z) f) = true ∧ ∀ m, cov z (ps.foldl (pcStep z) f) m ↔ cov z f m ∨ cov z ps m
  | [], f, h, _ => ⟨h, fun m => by simp [cov_nil]⟩
  | p :: r, f, h, hs => by
    obtain ⟨a, b⟩ := pcStep_ok (z := z) h (hs p (by simp))
    obtain ⟨c, d⟩ := pieces_ok r _ a fun x hx => hs x (by simp [hx])
    refine ⟨c, fun m => ?_⟩
    show cov z (r.foldl (pcStep z) (pcStep z f p)) m ↔ _
    rw [d m, b m, cov_cons, or_assoc]
theorem pieces_is {z : Bool} {ps : List Pr} (h : ∀ p ∈ ps, p.1 ≤ p.2) : pieces z ps = unionM z ps := by
  obtain ⟨a, b⟩ := pieces_ok (z := z) ps [] rfl h
  exact (union_is a fun m => by rw [b m]; simp [cov_nil]).symm
theorem pieces_len {z : Bool} {ps : List Pr} : (pieces z ps).length ≤ ps.length := by
  have : ∀ (l f : List Pr), (l.foldl (pcStep z) f).length ≤ f.length + l.length := by
    intro l
    induction l with
    | nil => intro f; simp
    | cons p r ih =>
      intro f
      have h1 := ih (pcStep z f p)
      have h2 : (pcStep z f p).length ≤ f.length + 1 := by
        unfold pcStep
        split
        · rw [(srt_perm _).length_eq, List.length_append, List.length_singleton]
          have := (pcGo_sub f p).length_le
          omega
        · omega
      rw [List.foldl_cons, List.length_cons]
      omega
  have := this ps []
  unfold pieces
  simpa using this
/-! ### the answers -/
def busyB (z : Bool) (ps : List Pr) (w : Pr) : Bool := ps.any fun p => meetB z p w
def covB (us : List Pr) (w : Pr) : Bool := us.any fun p => decide (p.1 ≤ w.1) && decide (w.2 ≤ p.2)
/-- t: 0 busy, 1 covered, 2 clash -/
def ansB (t : Nat) (z : Bool) (ps : List Pr) (w : Pr) : Bool := if t = 0 then busyB z ps w else if t = 1 then covB (unionM z ps) w else clashB z ps
theorem union_rev {z : Bool} {ps : List Pr} : unionM z ps.reverse = unionM z ps := union_eq_iff.mpr fun m => cov_perm (List.reverse_perm ps)
theorem ans_rev {t : Nat} {z : Bool} {ps : List Pr} {w : Pr} : ansB t z ps.reverse w = ansB t z ps w := by
  unfold ansB
  rw [clash_rev, union_rev, show busyB z ps.reverse w = busyB z ps w from List.any_reverse ..]
theorem ans_nil {t : Nat} {z : Bool} {w : Pr} : ansB t z [] w = false := by
  unfold ansB busyB clashB
  split
  · rfl
  · split
    · rfl
    · rw [decide_eq_true (show Apart z [] from .nil)]; rfl
end Spk

namespace Spk
open PySem PySem.Spec PyProof.Rows L2
/-! Defs that are run where no repr is under way: the layer's rule of a def, with that known of the place. -/
structure FnG (P : Program) (w : World) (K : PySem.W.Frag) (mg : Str → Option Value) (bh : Heap) (k : Nat) (f : Addr) (fd : FuncData) (ps : List Str) (sp : Sp) : Prop where
  lenG : ∀ ws J R U, sp ws J R U → ws.length = ps.length
  runG : ∀ (B : Around) (ou : List Env) (t : Shared) (J : Hp) (ar : Args) (xs : List Value) (ws : List V) (R : VK) (U : XK), B.guards = some [] → Room k B →
    Env0 P w K mg bh B ou t J → BindsTo t fd ar (ps.zip xs) → Vals ws xs → sp ws J R U →
    codeAny (model P w) B (.call (.ref f) ar) (CR CX0 ou P w J t R U) t
section
variable {P : Program} {w : World} {K : PySem.W.Frag} {mg : Str → Option Value} {bh : Heap}
theorem fnG_of {k : Nat} {f : Addr} {nm qu : Str} {pr : Arguments} {bd : List Stmt} {sc : Scope} {v1 v2 v3 v4 v5 v6 v7 : Value} {o1 o2 : Option Addr}
    {sl : Array (Option Value)} {N ps : List Str} {sp : Sp}
    (lk : K.lookup f = some ⟨v7, o2, .func (PySem.W.fnOf nm qu pr bd sc v1 v2 v3 v4 o1 v5 v6), sl⟩)
    (hcd : PySem.W.codeIn K v5 qu = true) (S : FnScope N ps sc)
    (ln : ∀ ws J R U, sp ws J R U → ws.length = ps.length)
    (hb : ∀ (B : Around) (ou : List Env) (t : Shared) (J : Hp) (ws : List V) (R : VK) (U : XK), B.guards = some [] →
      Room k (B.deeper (envOfC qu sc t.heap.objs.size f v5)) → sp ws J R U →
      ∃ tr, PSs (cxOf CX0 P w K mg bh N qu sc f v5 B ou t J U) bd tr ∧ tr { nx := fun _ J' => R .non J', rt := R } (L2.start N ws) J) :
    FnG P w K mg bh (k + 1) f (PySem.W.fnOf nm qu pr bd sc v1 v2 v3 v4 o1 v5 v6) ps sp := by
  refine ⟨ln, fun B ou t J ar xs ws R U hgd rm e0 bi rl hsp => ?_⟩
  have hlen := ln _ _ _ _ hsp
  have kin : K.In t.heap := e0.mod.kin.keeps fun z y q => (e0.bs z y q).1
  have nol : t.heap.NoLimit := e0.mod.nolimit.keeps fun z y q => (e0.bs z y q).1
  refine codeAny_call_function rm.depth (kin _ _ lk) rfl S.co S.gen rfl (PySem.W.codeRec_of kin hcd) (bi _ _ _ _ ?_)
  refine wpAny_newFunctionEnv_cells S.kind ?_ fun en hen s1 ic => ?_
  · rintro ⟨n, v⟩ hy
    exact (S.par n (List.of_mem_zip hy).1).imp id fun q => ⟨q, PySem.W.cellsFrom_some _ _ _ (.inl q)⟩
  · subst hen
    refine ⟨nol.keeps ic.toInCall.keep, codeAny_func ?_⟩
    obtain ⟨tr, htr, hq⟩ := hb B ou t J ws R U hgd (rm.deeper _) hsp
    have iv : Inv (cxOf CX0 P w K mg bh N qu sc f v5 B ou t J U) [] (L2.start N ws) J s1 := inv_start S rm.hd e0 hlen rl ic
    refine wpAny_mono (htr.run [] s1 (L2.start N ws) J _ iv hq) (fun fl s2 hs => ?_) fun _ _ hs => hs
    cases fl with
    | ret u =>
      obtain ⟨v, _, J', I', rv, q⟩ := hs
      exact ⟨v, J', I'.os, I'.bare, I'.base, I'.hok, rv, q⟩
    | next =>
      obtain ⟨_, J', I', q⟩ := hs
      exact ⟨.non, J', I'.os, I'.bare, I'.base, I'.hok, rfl, q⟩
    | brk => exact hs.elim fun _ h => h.elim fun _ h => h.2.elim
    | cont => exact hs.elim fun _ h => h.elim fun _ h => h.2.elim
theorem Fun.okG {x qu : Str} {st : Stmt} {f : Addr} {fd : FuncData} {N ps : List Str} {k : Nat} {sp : Sp} (F : Fun K x qu st f fd) (S : FnScope N ps (defScope st))
    (ln : ∀ ws J R U, sp ws J R U → ws.length = ps.length)
    (hb : ∀ (cv : Value) (B : Around) (ou : List Env) (t : Shared) (J : Hp) (ws : List V) (R : VK) (U : XK), B.guards = some [] →
      Room k (B.deeper (envOfC qu (defScope st) t.heap.objs.size f cv)) → sp ws J R U →
      ∃ tr, PSs (cxOf CX0 P w K mg bh N qu (defScope st) f cv B ou t J U).nox (defBody st) tr ∧ tr { nx := fun _ J' => R .non J', rt := R } (L2.start N ws) J) :
    FnG P w K mg bh (k + 1) f fd ps sp := by
  obtain ⟨_, _, _, _, _, _, cv, _, _, rfl, lk, hcd⟩ := F.ex
  refine fnG_of lk hcd S ln fun B ou t J ws R U hgd rm hsp => ?_
  obtain ⟨tr, h, q⟩ := hb cv B ou t J ws R U hgd rm hsp
  exact ⟨tr, h.nox, q⟩
theorem FnG.of {k : Nat} {f : Addr} {fd : FuncData} {ps : List Str} {sp : Sp} (F : FnOk P w K mg bh CX0 k f fd ps sp) : FnG P w K mg bh k f fd ps sp :=
  ⟨F.len, fun B ou t J ar xs ws R U _ rm e0 bi rl h => F.run B ou t J ar xs ws R U rm e0 bi rl h⟩
end
section
variable {X : Cx} {k : Nat} {f : Addr} {fd : FuncData} {ps : List Str} {sp : Sp} {dvs : List V} {ds : List Value} {x : Str} {p pos : Pos} {e : Expr} {es : List Expr} {t : TA}
theorem run_fnG {pins : List (Addr × Obj)} {σ : L2.St} {J : Hp} {s : Shared} {R : VK} {xs : List Value} {ws : List V} (F : FnG X.prog X.w X.K X.mg X.base k f fd ps sp) (gd : X.A.guards = some []) (rm : Room k X.A)
    (bi : Binds X.K fd ps ds) (dd : Vals dvs ds) (I : Inv X pins σ J s) (rl : Vals ws xs) (h : sp (ws ++ dvs) J R E0) :
    wpAny (model X.prog X.w) X.A (call (.ref f) xs) (EP X pins σ R) X.xe s := by
  have r2 : Vals (ws ++ dvs) (xs ++ ds) := rl.append dd
  have hl : (xs ++ ds).length = ps.length := r2.length.symm.trans (F.lenG _ _ _ _ h)
  refine wpAny_call (codeAny_mono (F.runG X.A X.stack s J ⟨xs, []⟩ (xs ++ ds) (ws ++ dvs) R E0 gd rm I.env0 (bi s xs I.kIn hl) r2 h) fun r s' hq => ?_)
  match r, hq with
  | .ok (.ret u), hq => exact I.after hq
/-- f(e, ..), f a def that wants no repr under way -/
theorem pe_callG (F : FnG X.prog X.w X.K X.mg X.base k f fd ps sp) (gd : X.A.guards = some []) (rm : Room k X.A) (hg : Gl X x) (hm : X.mg x = some (.ref f)) (hk : PySem.W.keepIn X.K (.ref f) = true)
    (bi : Binds X.K fd ps ds) (dd : Vals dvs ds) (ha : PA X (e :: es) t) (hdb : (x == ("__debug__" : Str)) = false := by decide)
    (he : starEach (e :: es) X.env = (false, eval e X.env) :: starEach es X.env := by rfl) (hpl : (backTo pos (starEach es X.env)).any (·.1) = false := by rfl) :
    PE X (.Call (.Name x p) (e :: es) [] pos) (tCall sp dvs E0 t) := by
  refine ⟨fun pins s σ J R I h => wpAny_Call_Name_kw (ld_glob I hg hm ?_ hdb)⟩
  refine PySem.W.callWith_K (h₀ := X.base) I.ok.mod.kin hk (thn (ha.run pos pins s σ J _ I h) fun xs s1 hh => ?_) he hpl
  obtain ⟨ws, J1, I1, rl, q⟩ := hh
  exact ⟨I1.kIn, run_fnG F gd rm bi dd I1 rl q⟩
/-- repr of data: None, bools, ints, texts, lists and tuples of these, where no repr is under way -/
def rRepr (K : PySem.W.Frag) : List V → Hp → VK → Prop := fun xs J R => ∃ (x : V) (d : PyData), xs = [x] ∧ Dp K J x d ∧ d.showable = true ∧ d.hasDict = false ∧ d.depth ≤ 64 ∧ d.shown.length ≤ sizeLine ∧ R (.str d.shown) J
theorem call_reprD (gd : X.A.guards = some []) (rm : Room k X.A) : CallR X (.builtin "repr") (rRepr X.K) := by
  intro pins s σ J xs us R I r h
  obtain ⟨x, d, rfl, dp, hs, hnd, hdep, hz, q⟩ := h
  have hu : X.A.units + (d.depth + 1) < cLine := by have := rm.un; omega
  obtain ⟨u, rfl, ru⟩ := vals1 r
  obtain ⟨as, rd⟩ := Dp.reads I d x u dp ru
  have fin : ∀ h' tk, (∀ b o, s.heap.get? b = some o → h'.get? b = some o) → ∀ t, EP X pins σ R (.str d.shown t) { s with heap := h', toks := tk } := fun h' tk hk t =>
    ⟨.str d.shown, J, I.kept (t' := tk) hk, ⟨t, rfl⟩, q⟩
  cases dp with
  | non =>
    obtain rfl : u = Value.none := ru
    refine PySem.P.repr_of_none ?_
    have := fin s.heap (s.toks + 1) (fun _ _ z => z) s.toks
    simpa only [PyData.shown_none] using this
  | bl b =>
    obtain rfl : u = Value.bool b := ru
    refine PySem.P.repr_of_bool ?_
    have := fin s.heap (s.toks + 1) (fun _ _ z => z) s.toks
    simp only [PyData.shown_bool] at this
    cases b <;> exact this
  | int i =>
    obtain ⟨t, rfl⟩ := ru
    refine PySem.P.repr_of_int (by simpa [PyData.showable] using hs) ?_
    have := fin s.heap (s.toks + 1) (fun _ _ z => z) s.toks
    simpa only [PyData.shown_int] using this
  | str y =>
    obtain ⟨t, rfl⟩ := ru
    refine PySem.P.repr_of_str ?_ (by simpa only [PyData.shown_str] using hz)
    have := fin s.heap (s.toks + 1) (fun _ _ z => z) s.toks
    simpa only [PyData.shown_str] using this
  | @lst a ys ds sq da =>
    obtain rfl : u = Value.ref a := ru
    exact repr_of_reads' rd hs (fun z => absurd z (by rw [hnd]; decide)) gd hu (fun _ _ z => z) (fun h' t tk hk => fin h' tk hk t) hz
  | @tup a ys ds sq da =>
    obtain rfl : u = Value.ref a := ru
    exact repr_of_reads' rd hs (fun z => absurd z (by rw [hnd]; decide)) gd hu (fun _ _ z => z) (fun h' t tk hk => fin h' tk hk t) hz
end
end Spk

namespace Spk
open PySem PySem.Spec PyProof.Rows L2
section
variable {P : Program} {w : World} {K : PySem.W.Frag} {mg mb : Str → Option Value} {k : Nat} {fa a : Addr} {fd : FuncData} {x : Str} {sp : Sp} {t : Shared} {zs : List Value} {ns : List Int}
def Fin1 (t : Shared) (r : Result) (u : Shared) : Prop := r = .ok (.ret (.bool true)) ∧ OldK t.heap u.heap ∧ u.os = t.os ∧ AllBare u.gens
/-- the law's call, from a heap that tracks nothing but the script (or nothing) -/
theorem coreG {J : Hp} (KX : K.In t.heap) (hns : t.heap.Ns mainGlobals mg) (hb : t.heap.Ns builtinsNs mb) (hbb : ∀ y : Str, y ≠ "__name__" → mb y = bootBuiltins y) (hlim : t.heap.NoLimit) (hg : t.gens = #[])
    (ha : t.heap.get? a = some { cls := .type "list", data := .seq zs.toArray }) (rm : Room k callerA)
    (F : ∀ bh : Heap, K.In bh → bh.Ns mainGlobals mg → FnG P w K mg bh k fa fd [x] sp) (bi : ∀ (s : Shared) (u : Value), BindsTo s fd ⟨[u], []⟩ [(x, u)])
    (hO : Only J) (hok : HOk P w J t.heap) (hA : ∀ b, J b ≠ none → b = a) (hK : J a ≠ none → K.lookup a = none)
    (hsp : sp [.ref a] J (fun v _ => v = .bl true) E0) : codeAny (model P w) callerA (.call (.ref fa) ⟨[.ref a], []⟩) (Fin1 t) t := by
  have gone : ∀ b o es ep, t.heap.get? b = some o → o.data = .dict es ep → J b = none := by
    intro b o es ep e d
    cases q : J b with
    | none => rfl
    | some u =>
      obtain rfl : b = a := hA b (by rw [q]; exact fun z => nomatch z)
      obtain rfl : _ = o := Option.some.inj (ha.symm.trans e)
      exact nomatch (show Data.seq zs.toArray _ = Data.dict es ep from d)
  have ns' : ∀ b m, t.heap.Ns b m → (hidT t.heap J).Ns b m := by
    rintro b m ⟨o, es, ep, e, d, r⟩
    exact ⟨o, es, ep, hidT_get e (gone b o es ep e d), d, r⟩
  have kb : K.In (hidT t.heap J) := by
    intro b o e
    refine hidT_get (KX b o e) ?_
    cases q : J b with
    | none => rfl
    | some u =>
      obtain rfl : b = a := hA b (by rw [q]; exact fun z => nomatch z)
      exact absurd e (by rw [hK (by rw [q]; exact fun z => nomatch z)]; exact fun z => nomatch z)
  have md : Mod K mg (hidT t.heap J) := ⟨kb, ns' _ _ hns, ⟨mb, ns' _ _ hb, hbb⟩, hlim.imp fun mc h => ⟨ns' _ _ h.1, h.2⟩⟩
  have e0 : Env0 P w K mg (hidT t.heap J) callerA [] t J :=
    { frames := rfl, mod := md, bs := fun _ _ e => of_hidT e, bsz := Nat.le_of_eq (hidT_size _ _), funs := trivial, frf := (fun _ h => nomatch h), hok := hok, bare := .of_eq hg }
  refine codeAny_mono ((F _ kb (ns' _ _ hns)).runG callerA [] t J ⟨[.ref a], []⟩ [.ref a] [.ref a] _ E0 rfl rm e0 (bi t (.ref a)) (.cons rfl .nil) hsp) fun r u h => ?_
  match r, h with
  | .ok (.ret y), h =>
    obtain ⟨v, J', os, bare, un, hok', ry, q⟩ := h
    obtain rfl : v = .bl true := q
    obtain rfl : y = Value.bool true := ry
    refine ⟨rfl, OldK.of_keep fun b o e => ?_, os, bare⟩
    rcases hO b with z | ⟨ob, xs, z⟩
    · exact un.keep b o e z (fun h => nomatch h) (fun h => nomatch h)
    · have e1 := (hok b _ z).1
      have e2 := (hok' b _ (un.frzs b ob _ z)).1
      exact e2.trans (e1.symm.trans e)
theorem lawG (KX : K.In t.heap) (hns : t.heap.Ns mainGlobals mg) (hb : t.heap.Ns builtinsNs mb) (hbb : ∀ y : Str, y ≠ "__name__" → mb y = bootBuiltins y) (hlim : t.heap.NoLimit) (hg : t.gens = #[])
    (ha : t.heap.get? a = some { cls := .type "list", data := .seq zs.toArray }) (hi : IntsAre zs ns) (hl : ns.length ≤ sizeLine) (rm : Room k callerA)
    (F : ∀ bh : Heap, K.In bh → bh.Ns mainGlobals mg → FnG P w K mg bh k fa fd [x] sp) (bi : ∀ (s : Shared) (u : Value), BindsTo s fd ⟨[u], []⟩ [(x, u)])
    (hsp : ∀ J : Hp, Only J → SqL K J a (ns.map V.int) → sp [.ref a] J (fun v _ => v = .bl true) E0) :
    codeAny (model P w) callerA (.call (.ref fa) ⟨[.ref a], []⟩) (Fin1 t) t := by
  have rv : Vals (ns.map V.int) zs := vals_ints hi
  have ll : zs.length ≤ sizeLine := by rw [← rv.length, List.length_map]; exact hl
  cases hk : K.lookup a with
  | some o =>
    obtain rfl : _ = o := Option.some.inj (ha.symm.trans (KX a o hk))
    have sq : SqL K (fun _ => none) a (ns.map V.int) := Or.inr ⟨_, zs.toArray, _, hk, rfl, rfl, rfl, by simpa using ll, by simpa using rv⟩
    exact coreG KX hns hb hbb hlim hg ha rm F bi (fun _ => Or.inl rfl) (fun _ _ z => nomatch z) (fun _ z => absurd rfl z) (fun z => absurd rfl z) (hsp _ (fun _ => Or.inl rfl) sq)
  | none =>
    let J : Hp := fun b => if b = a then some (.frz { cls := .type "list", data := .seq zs.toArray } (.lst (ns.map V.int))) else none
    have ja : J a = some (.frz { cls := .type "list", data := .seq zs.toArray } (.lst (ns.map V.int))) := if_pos rfl
    have jn : ∀ b, b ≠ a → J b = none := fun b h => if_neg h
    have ho : Only J := fun b => (Classical.em (b = a)).elim (fun e => Or.inr ⟨_, _, e ▸ ja⟩) fun e => Or.inl (jn b e)
    refine coreG KX hns hb hbb hlim hg ha rm F bi ho (fun b u z => ?_) (fun b z => Classical.byContradiction fun e => z (jn b e)) (fun _ => hk) (hsp J ho (Or.inl (Or.inr ⟨_, ja⟩)))
    by_cases e : b = a
    · subst e
      obtain rfl := Option.some.inj (ja.symm.trans z)
      exact ⟨ha, by rw [List.length_map]; exact hl, zs, _, rv, ha⟩
    · exact absurd ((jn b e).symm.trans z) fun z => nomatch z
end
theorem walkG {l : PySem.W.OpenLaw} {n k : Nat} {q : Program} {lo : List Str} {XP : (Str → Option Value) → Heap → Prop} {YP : World → Heap → Prop} {d : DefRec} {K : Params → PySem.W.Frag} {sp : World → Sp} {x : Str}
    (hn : l.most = some n) (hn2 : n ≤ sizeLine) (hdf : d.params.defaults = []) (rm : Room k callerA) (hY : ∀ (w : World) (h : Heap), YP w h → (K w.params).In h)
    (F : ∀ (w : World) (mg : Str → Option Value) (fa : Addr) (h : Heap), (K w.params).In h → h.Ns mainGlobals mg → mg d.name = some (.ref fa) →
      ∃ fd : FuncData, (∀ (s : Shared) (u : Value), BindsTo s fd ⟨[u], []⟩ [(x, u)]) ∧
        ∀ bh : Heap, (K w.params).In bh → bh.Ns mainGlobals mg → FnG l.prog w (K w.params) mg bh k fa fd [x] (sp w))
    (hsp : ∀ (w : World) (J : Hp) (a : Addr) (ns : List Int), ns.length ≤ n → Only J → SqL (K w.params) J a (ns.map V.int) → sp w [.ref a] J (fun v _ => v = .bl true) E0) :
    PySem.W.WalkO q lo XP YP l.row.toRowW d [] (fun f vs => PySem.call f vs) := by
  refine Att.attach_call hn hdf fun w s₀ t mg mb fa o pm cd doc a zs ns G Y ho hd hcd hmg hobj hints hlen hg => ?_
  obtain ⟨fd, bi, hF⟩ := F w mg fa _ (hY w _ Y) G.T.g hmg
  exact lawG (hY w _ Y) G.T.g G.T.b G.T.builtins G.T.nolimit hg hobj hints (Nat.le_trans hlen hn2) rm hF bi fun J hO hS => hsp w J a ns hlen hO hS
end Spk

namespace Spk
open PySem PySem.Spec PyProof.Rows L2
open AutoSeq1 (wpAny_loadPart')
theorem enumT_new (t : Addr) (its : Array Value) (n : Nat) (dct : Option Addr) (sl : Array (Option Value)) :
    Meets (Builtin.«enumerate.__new__» ⟨[.type "enumerate", .ref t], []⟩) (fun _ R s => s.heap.get? t = some { cls := .type "tuple", dict := dct, data := .seq its n, slots := sl } ∧
      R (.ok (.ret (.ref (s.heap.push { cls := .type "tuple_iterator", data := .fields #[.ref t, .int 0 0] }).objs.size)))
        { s with heap := (s.heap.push { cls := .type "tuple_iterator", data := .fields #[.ref t, .int 0 0] }).push { cls := .type "enumerate", data := .fields #[.none, .bool false, .ref s.heap.objs.size, rawInt 0, .none, .none] } }) :=
  .of_wp fun prog w A R s h => by
    obtain ⟨hp, g, d, tk, os⟩ := s; obtain ⟨ht, h⟩ := h
    have hsub := sub_enumerate
    have hT : Heap.IsTuple (Shared.heap ⟨hp, g, d, tk, os⟩) t its := ⟨_, ht, rfl, n, rfl⟩
    wp_walk using wpAny_loadPart' ht
    refine wpAny_stack_any fun st => wpAny_pure ?_
    split
    · rename_i c _ _ _ _ _
      cases (c == Value.type "enumerate") <;> (wp_walk using wpAny_loadPart' ht, wpAny_pyIter_tuple hT; exact ⟨_, rfl, h⟩)
    · wp_walk using wpAny_loadPart' ht, wpAny_pyIter_tuple hT
      exact ⟨_, rfl, h⟩
theorem mem2 {α : Type} {b x y : α} (h : b ∈ [x, y]) : b = x ∨ b = y := by simpa using h
section
variable {prog : Program} {w : World} {A : Around} {E : Value → Shared → Prop} {s : Shared}
theorem enumT_call {t : Addr} {its : Array Value} {Q : Value → Shared → Prop} (hT : s.heap.IsTuple t its)
    (h : ∀ g, IsEnum g (s.heap.objs.size + 1) s.heap.objs.size 0 .none → g.IsTupleIter s.heap.objs.size t 0 → g.objs.size = s.heap.objs.size + 2 →
      (∀ b o, s.heap.get? b = some o → g.get? b = some o) → Q (.ref (s.heap.objs.size + 1)) { s with heap := g }) :
    wpAny (model prog w) A (call (.type "enumerate") [.ref t]) Q E s := by
  obtain ⟨⟨c, dct, dt, sl⟩, ht, hc, n, hd⟩ := hT
  obtain rfl : c = .type "tuple" := hc
  obtain rfl : dt = .seq its n := hd
  refine callType_new F.called_enumerate (by decide) (F.typeCall_enumerate_1 _) (F.newCall_enumerate_1 _) (fun ob => F.args_object_init_2 ob _) F.entry_enumerate_new (enumT_new t its n dct sl) ⟨ht, ?_⟩
  have hz : (s.heap.push { cls := .type "tuple_iterator", data := .fields #[.ref t, .int 0 0] }).objs.size = s.heap.objs.size + 1 := Heap.size_push ..
  show _ ∧ _
  rw [hz]
  have he : IsEnum ((s.heap.push { cls := .type "tuple_iterator", data := .fields #[.ref t, .int 0 0] }).push
      { cls := .type "enumerate", data := .fields #[.none, .bool false, .ref s.heap.objs.size, rawInt 0, .none, .none] }) (s.heap.objs.size + 1) s.heap.objs.size 0 .none := by
    have q := Heap.get?_push_size (s.heap.push { cls := .type "tuple_iterator", data := .fields #[.ref t, .int 0 0] })
      (o := { cls := .type "enumerate", data := .fields #[.none, .bool false, .ref s.heap.objs.size, rawInt 0, .none, .none] }) rfl
    rw [hz] at q; exact q
  exact ⟨⟨_, he, rfl⟩, h _ he ⟨_, Heap.get?_push_of_some _ (Heap.get?_push_size _ rfl), rfl, rfl⟩ (by rw [Heap.size_push, hz]) fun b o q => Heap.get?_push_of_some _ (Heap.get?_push_of_some _ q)⟩
end
/-- enumerate(tuple): each item in a new pair -/
def ItE (K : PySem.W.Frag) (a : Addr) : It where
  go := fun i H => ∃ (xs : List V) (x : V), SqT K H a xs ∧ xs[i]? = some x
  yld := fun i H v H' => ∃ T x, v = .ref T ∧ H T = none ∧ H' = upd H T (.tup [.int (i : Nat), x]) ∧ ∀ xs, SqT K H a xs → xs[i]? = some x
  stop := fun i H => ∃ xs : List V, SqT K H a xs ∧ xs.length ≤ i
theorem turnE {P : Program} {w : World} {K : PySem.W.Frag} {elts : List Expr} {kk : Nat} {tpos : Pos} (a e it : Addr) (hai : a ≠ it) (hae : e ≠ a) :
    Turn P w K (.Tuple elts kk tpos) (ItE K a) [e, it] e (fun i h => (∃ old, IsEnum h e it ((i : Nat) : Int) old) ∧ h.IsTupleIter it a i ∧ e ≠ it) where
  mem := List.mem_cons_self
  obj := by
    rintro i h ⟨⟨old, he⟩, ⟨o, ho, hc, hd⟩, _⟩ b hb
    rcases mem2 hb with rfl | rfl
    · exact ⟨_, he, fun v q => nomatch q⟩
    · exact ⟨o, ho, fun v q => by rw [hd] at q; cases q⟩
  keep := by
    rintro i h h' ⟨⟨old, he⟩, hi, hne⟩ k
    exact ⟨⟨old, k e (by simp) _ he⟩, hi.at fun o q => k it (by simp) o q, hne⟩
  item := by
    intro X hP hw hK hc i pins s σ H E I hf st hg
    subst hP hw hK
    obtain ⟨⟨old, he⟩, hit, hne⟩ := st
    obtain ⟨xs, x, hq, hx⟩ := hg
    obtain ⟨its, rv, p, hz⟩ := I.tuple hq
    obtain ⟨u, hu, ru⟩ := rv.get hx
    have hu' : its.toArray[i]? = some u := by simpa using hu
    have hlt : i < its.toArray.size := by
      obtain ⟨h1, _⟩ := Array.getElem?_eq_some_iff.mp hu'
      exact h1
    have hT : s.heap.IsTuple a its.toArray := p
    have hel : e < s.heap.objs.size := Heap.lt_size he
    have hil : it < s.heap.objs.size := by obtain ⟨_, q, _⟩ := hit; exact Heap.lt_size q
    have D := Draws.tuple (prog := X.prog) (w := X.w) (A := X.A.in1) (I.ok.hd hc) it a hai its.toArray
    refine wpAny_pyNext_enum_itemD D he ⟨hit, hT⟩ hlt hne (fun hm => ?_) fun y g tk hy ho hst hTp hsz hk => ?_
    · rcases mem2 hm with z | z
      · exact hne z
      · exact hae z
    · obtain rfl : u = y := Option.some.inj (hu'.symm.trans hy)
      refine ⟨_, rfl, wpAny_letOwnedTupleGo_enum (s := { s with heap := g, toks := tk + 1 }) ho fun g2 he2 sb => ?_⟩
      have hT2 : g2.get? s.heap.objs.size = some { cls := .type "tuple", data := .seq #[.int i tk, u] } := (sb.2 _ (Nat.ne_of_gt hel)).trans hTp
      have new : ObjOk X.prog X.w (upd H s.heap.objs.size (.tup [.int (i : Nat), x])) g2 s.heap.objs.size (.tup [.int (i : Nat), x]) :=
        ⟨by show 2 ≤ sizeLine; decide, [.int i tk, u], .cons ⟨_, rfl⟩ (.cons ru .nil), ⟨_, hT2, rfl, _, rfl⟩⟩
      have I1 : Inv X pins σ (upd H s.heap.objs.size (.tup [.int (i : Nat), x])) { s with heap := g2, toks := tk + 1 } := by
        refine I.turnedNew (ch := [e, it]) (fun b ob hb q => ?_) hf (Nat.le_refl _) new
        have n1 : b ≠ e := fun z => hb (by simp [z])
        have n2 : b ≠ it := fun z => hb (by simp [z])
        exact (sb.2 b n1).trans (hk b ob n1 n2 q)
      refine ⟨.ref s.heap.objs.size, _, I1, rfl, ⟨_, x, rfl, I.hok.fresh (Nat.le_refl _), rfl, fun ys hy => by rw [I.tuple_inj hy hq]; exact hx⟩, ⟨⟨u, ?_⟩, hst.1.at fun o q => (sb.2 it (Ne.symm hne)).trans q, hne⟩, fun b hb => ?_⟩
      · have e1 : ((i + 1 : Nat) : Int) = (i : Int) + 1 := by omega
        rw [e1]; exact he2
      · have hlb : b < s.heap.objs.size := by rcases mem2 hb with rfl | rfl <;> assumption
        exact (upd_ne (Nat.ne_of_lt hlb)).trans (hf b hb).1
  done := by
    intro X hP hw hK hc i pins s σ H E I hf st hg
    subst hP hw hK
    obtain ⟨⟨old, he⟩, hit, hne⟩ := st
    obtain ⟨xs, hq, hx⟩ := hg
    obtain ⟨its, rv, p, hz⟩ := I.tuple hq
    obtain ⟨f0, f1, f2, f3, f4, f5⟩ := hf it (by simp)
    have hT : s.heap.IsTuple a its.toArray := p
    have hl := rv.length
    have hT2 : its.toArray[i]? = none := by simp; omega
    refine (show wpAny (model X.prog X.w) X.A (pyNext (.ref e)) _ E s from ?_)
    have hTy : s.TypeIs (.ref e) "enumerate" := ⟨_, he, rfl⟩
    unfold pyNext
    refine wpAny_bind (wpAny_attempt (wpAny_callSpecial?_slot (name := Str.ofString "__next__") hTy F.slot_enumerate_next
      (wpAny_call_entry F.slot_enumerate_next hTy F.entry_enumerate_next ?_ (F.args_enumerate_next_1 _))))
    show wpAny _ _ (field (.ref e) 2 >>= _) _ _ _
    refine wpAny_bind (wpAny_field he rfl (x := .ref it) rfl ?_)
    refine wpAny_bind (wpAny_nextOf_tuple_end (I.ok.hd hc) hit hT hT2 fun g x eb hx' => ?_)
    obtain ⟨o, ho, hcl⟩ := hx'
    refine wpAny_bind (wpAny_isInstance (T := "StopIteration") (b := true) ⟨o, ho, hcl⟩ isSubtype_stop ?_)
    exact wpAny_pure ⟨rfl, I.turned (t' := s.toks) (fun b o hb q => eb b o hb q) f0 f1 f3 f4 f5⟩
  self := by
    rintro A i s Q E ⟨⟨_, he⟩, _⟩ h
    exact wpAny_pyIter_enum he h
theorem walkE {K : PySem.W.Frag} {a : Addr} {xs : List V} : Walk (ItE K a) xs.length (fun H => SqT K H a xs) (YPair (fun i => some (.int (i : Nat))) (fun i => xs[i]?)) where
  goes := fun i _ hi q => ⟨xs, xs[i], q, by simp [hi]⟩
  stops := fun _ q => ⟨xs, q, Nat.le_refl _⟩
  yields := by
    rintro i H v H' _ q ⟨T, x, h1, h2, h3, h4⟩
    exact ⟨T, .int (i : Nat), x, h1, h2, h3, rfl, h4 xs q⟩
/-- a list or a tuple -/
def Sq (K : PySem.W.Frag) (H : Hp) (a : Addr) (xs : List V) : Prop := SqL K H a xs ∨ SqT K H a xs
/-- what was read at a is still to be read there -/
def SqK (K : PySem.W.Frag) (H H' : Hp) (a : Addr) (xs : List V) : Prop := (SqL K H a xs → SqL K H' a xs) ∧ (SqT K H a xs → SqT K H' a xs)
/-- enumerate(x), x a list or a tuple -/
def iEn (K : PySem.W.Frag) (ta : TA) : TI := fun σ H R => ta σ H fun vs H1 => ∃ a xs, vs = [.ref a] ∧ Sq K H1 a xs ∧
  ∀ J, Walk J xs.length (fun H => SqK K H1 H a xs) (YPair (fun i => some (.int (i : Nat))) (fun i => xs[i]?)) → R J H1
/-- x, a list or a tuple -/
def iSq (K : PySem.W.Frag) (tl : TE) : TI := fun σ H R => tl σ H fun x H1 => ∃ a xs, x = .ref a ∧ Sq K H1 a xs ∧
  ∀ J, Walk J xs.length (fun H => SqK K H1 H a xs) (YAt xs) → R J H1
section
variable {X : Cx}
theorem pi_en {e : Expr} {ta : TA} {p pos tpos : Pos} {elts : List Expr} {kk : Nat} (hg : Gl X "enumerate") (hm : X.mg "enumerate" = none) (ha : PA X [e] ta) (hs : starEach [e] X.env = [(false, eval e X.env)] := by rfl) :
    PI X (.Tuple elts kk tpos) (.Call (.Name "enumerate" p) [e] [] pos) (iEn X.K ta) := by
  refine ⟨fun pins s σ H R I h => Call_ (ld_blt I hg hm boot_enumerate (PyProof.Rows.callWith_type1 (thn (ha.run pos pins s σ H _ I h) fun us s1 hh => ?_) hs rfl))⟩
  obtain ⟨vs, H1, I1, r1, a, xs, rfl, hq, q⟩ := hh
  obtain ⟨u, rfl, ru⟩ := vals1 r1
  obtain rfl : u = Value.ref a := ru
  have fp : ∀ b ∈ [s1.heap.objs.size + 1, s1.heap.objs.size], FpOk X pins H1 b := fun b hb => by
    have hle : s1.heap.objs.size ≤ b := by rcases mem2 hb with rfl | rfl <;> omega
    exact I1.fpOk hle (I1.hok.fresh hle)
  rcases hq with hq | hq
  · obtain ⟨its, rv, p', hz⟩ := I1.list hq
    refine call_enumerate_list p'.isList fun g he hit hsz hk => wpAny_pyIter_enum he ?_
    exact ⟨s1.heap.objs.size + 1, [s1.heap.objs.size + 1, s1.heap.objs.size], _, _, H1, rfl, I1.kept (t' := s1.toks) hk, turn_enum a _ _, ⟨⟨.none, he⟩, hit, Nat.succ_ne_self _⟩, fp, q _ (walk_enum.mono (fun _ z => z.1 hq) fun _ _ _ _ _ _ y => y)⟩
  · obtain ⟨its, rv, p', hz⟩ := I1.tuple hq
    have hT : s1.heap.IsTuple a its.toArray := p'
    have hlt : a < s1.heap.objs.size := by obtain ⟨_, z, _⟩ := hT; exact Heap.lt_size z
    refine enumT_call hT fun g he hit hsz hk => wpAny_pyIter_enum he ?_
    exact ⟨s1.heap.objs.size + 1, [s1.heap.objs.size + 1, s1.heap.objs.size], _, _, H1, rfl, I1.kept (t' := s1.toks) hk, turnE a _ _ (Nat.ne_of_lt hlt) (Nat.ne_of_gt (Nat.lt_succ_of_lt hlt)), ⟨⟨.none, he⟩, hit, Nat.succ_ne_self _⟩, fp, q _ (walkE.mono (fun _ z => z.2 hq) fun _ _ _ _ _ _ y => y)⟩
theorem pi_sq {tg l : Expr} {tl : TE} (hl : PE X l tl) : PI X tg l (iSq X.K tl) := by
  refine ⟨fun pins s σ H R I h => thn (hl.run pins s σ H _ I h) fun v s1 hh => ?_⟩
  obtain ⟨x, H1, I1, r1, a, xs, rfl, hq, q⟩ := hh
  obtain rfl : v = Value.ref a := r1
  have fp : ∀ b ∈ [s1.heap.objs.size], FpOk X pins H1 b := fun b hb => by
    obtain rfl : b = s1.heap.objs.size := by simpa using hb
    exact I1.fpOk (Nat.le_refl _) (I1.hok.fresh (Nat.le_refl _))
  rcases hq with hq | hq
  · obtain ⟨its, rv, p, hz⟩ := I1.list hq
    exact wpAny_pyIter_list p.isList ⟨s1.heap.objs.size, [s1.heap.objs.size], _, _, H1, rfl, I1.kept (t' := s1.toks) fun _ _ z => Heap.get?_push_of_some _ z, turn_list a _, ⟨_, Heap.get?_push_size _ rfl, rfl, rfl⟩, fp, q _ (walk_list.mono (fun _ z => z.1 hq) fun _ _ _ _ _ _ y => y)⟩
  · obtain ⟨its, rv, p, hz⟩ := I1.tuple hq
    have hT : s1.heap.IsTuple a its.toArray := p
    exact wpAny_pyIter_tuple hT ⟨s1.heap.objs.size, [s1.heap.objs.size], _, _, H1, rfl, I1.kept (t' := s1.toks) fun _ _ z => Heap.get?_push_of_some _ z, turn_tuple a _, ⟨_, Heap.get?_push_size _ rfl, rfl, rfl⟩, fp, q _ (walk_tup.mono (fun _ z => z.2 hq) fun _ _ _ _ _ _ y => y)⟩
end
end Spk

namespace Spk
open PySem PySem.Spec PyProof.Rows L2
/-! ### a def that may be called -/
structure Rdy (P : Program) (w : World) (K : PySem.W.Frag) (mg : Str → Option Value) (bh : Heap) (x : Str) (k : Nat) (ps : List Str) (sp : Sp) (f : Addr) (fd : FuncData) : Prop where
  ok : FnOk P w K mg bh CX0 k f fd ps sp
  gl : mg x = some (.ref f)
  kp : PySem.W.keepIn K (.ref f) = true
  bd : Binds K fd ps []
/-- a def with defaults -/
structure RdyD (P : Program) (w : World) (K : PySem.W.Frag) (mg : Str → Option Value) (bh : Heap) (x : Str) (k : Nat) (ps : List Str) (dvs : List V) (sp : Sp) (f : Addr) (fd : FuncData) : Prop where
  ok : FnOk P w K mg bh CX0 k f fd ps sp
  gl : mg x = some (.ref f)
  kp : PySem.W.keepIn K (.ref f) = true
  bd : Binds K fd ps []
  bd1 : ∃ ds, Vals dvs ds ∧ Binds K fd ps ds
section
variable {X : Cx} {x : Str} {k j : Nat} {ps : List Str} {dvs : List V} {sp : Sp} {f : Addr} {fd : FuncData} {p pos : Pos} {e : Expr} {es : List Expr} {t : TA}
theorem pe_rdy (R : Rdy X.prog X.w X.K X.mg X.base x k ps sp f fd) (rm : Room j X.A) (hj : k ≤ j) (hg : Gl X x) (ha : PA X (e :: es) t) (hdb : (x == ("__debug__" : Str)) = false := by decide)
    (he : starEach (e :: es) X.env = (false, eval e X.env) :: starEach es X.env := by rfl) (hpl : (backTo pos (starEach es X.env)).any (·.1) = false := by rfl) :
    PE X (.Call (.Name x p) (e :: es) [] pos) (tCall sp [] E0 t) := pe_call R.ok (rm.mono hj) hg R.gl R.kp R.bd .nil pass0 ha hdb he hpl
theorem pe_rdyD (R : RdyD X.prog X.w X.K X.mg X.base x k ps dvs sp f fd) (rm : Room j X.A) (hj : k ≤ j) (hg : Gl X x) (ha : PA X (e :: es) t) (hdb : (x == ("__debug__" : Str)) = false := by decide)
    (he : starEach (e :: es) X.env = (false, eval e X.env) :: starEach es X.env := by rfl) (hpl : (backTo pos (starEach es X.env)).any (·.1) = false := by rfl) :
    PE X (.Call (.Name x p) (e :: es) [] pos) (tCall sp [] E0 t) := pe_call R.ok (rm.mono hj) hg R.gl R.kp R.bd .nil pass0 ha hdb he hpl
/-- the last argument left out -/
theorem pe_rdyD1 (R : RdyD X.prog X.w X.K X.mg X.base x k ps dvs sp f fd) (rm : Room j X.A) (hj : k ≤ j) (hg : Gl X x) (ha : PA X (e :: es) t) (hdb : (x == ("__debug__" : Str)) = false := by decide)
    (he : starEach (e :: es) X.env = (false, eval e X.env) :: starEach es X.env := by rfl) (hpl : (backTo pos (starEach es X.env)).any (·.1) = false := by rfl) :
    PE X (.Call (.Name x p) (e :: es) [] pos) (tCall sp dvs E0 t) := by
  obtain ⟨ds, hv, bd⟩ := R.bd1
  exact pe_call R.ok (rm.mono hj) hg R.gl R.kp bd hv pass0 ha hdb he hpl
/-! ### a word between a statement and what follows -/
def tMid (t u : TS) : TS := fun D σ H => ∃ M : L2.St → Hp → Prop, t { D with nx := M } σ H ∧ ∀ τ J, M τ J → u D τ J
theorem pss_mid {st : Stmt} {sts : List Stmt} {t u : TS} (a : PS X st t) (b : PSs X sts u) : PSs X (st :: sts) (tMid t u) := by
  refine ⟨fun pins s σ H D I h => h.elim fun M h => ?_⟩
  refine wpAny_execs_cons (thn (a.run pins s σ H { D with nx := M } I h.1) fun fl s1 q => ?_)
  match fl, q with
  | .next, q =>
    obtain ⟨τ, J, I', q⟩ := q
    exact b.run pins s1 τ J D I' (h.2 τ J q)
  | .ret _, q => exact q
  | .brk, q => exact q
  | .cont, q => exact q
/-- an item of a tuple, the written part named -/
theorem ix_tupK {K : PySem.W.Frag} (h : X.K = K := by rfl) : IxR X (rIxT K) := h ▸ ix_tup
theorem ix_listK {K : PySem.W.Frag} (h : X.K = K := by rfl) : IxR X (rIxL K) := h ▸ ix_list
/-! ### constants of the module, of a class -/
theorem pe_globI {i : Int} (h : ∃ t, X.mg x = some (.int i t)) (hg : Gl X x) (hd : (x == ("__debug__" : Str)) = false := by decide) : PE X (.Name x pos) (tC (.int i)) := by
  obtain ⟨t, h⟩ := h
  exact pe_glob hg h ⟨t, rfl⟩ hd
/-- the class Ends, as the top has left it -/
structure EndsT (K : PySem.W.Frag) (mg : Str → Option Value) : Prop where
  ex : ∃ (C : Addr) (mc u1 u2 : Value), mg "Ends" = some (.ref C) ∧ ClX.CRead K C mc ∧ ClX.CVal K C mc "HALF" (.str "half") u1 ∧ ClX.CVal K C mc "SHUT" (.str "shut") u2
theorem pe_half (h : EndsT X.K X.mg) (hg : Gl X "Ends") (hb : attributeBase (.Name "Ends" p) "HALF" X.env (eval (.Name "Ends" p) X.env) = eval (.Name "Ends" p) X.env := by rfl) :
    PE X (.Attribute (.Name "Ends" p) "HALF" pos) (tC (.str "half")) := by
  obtain ⟨C, mc, u1, u2, g, r, a, b⟩ := h.ex
  have q := ClX.pe_cval (X := X) (f := "HALF") (pos := pos) (pe_glob (v := .ref C) (pos := p) hg g rfl) hb
  exact ⟨fun pins s σ H R I z => q.run pins s σ H R I ⟨C, mc, _, u1, rfl, r, a, z⟩⟩
theorem pe_shut (h : EndsT X.K X.mg) (hg : Gl X "Ends") (hb : attributeBase (.Name "Ends" p) "SHUT" X.env (eval (.Name "Ends" p) X.env) = eval (.Name "Ends" p) X.env := by rfl) :
    PE X (.Attribute (.Name "Ends" p) "SHUT" pos) (tC (.str "shut")) := by
  obtain ⟨C, mc, u1, u2, g, r, a, b⟩ := h.ex
  have q := ClX.pe_cval (X := X) (f := "SHUT") (pos := pos) (pe_glob (v := .ref C) (pos := p) hg g rfl) hb
  exact ⟨fun pins s σ H R I z => q.run pins s σ H R I ⟨C, mc, _, u2, rfl, r, b, z⟩⟩
end

/-! ### defs with defaults, calls by keywords alone -/
section
variable {P : Program} {w : World} {K : PySem.W.Frag} {mg : Str → Option Value} {bh : Heap} {x qu : Str} {st : Stmt} {dvs : List V} {f : Addr} {fd : FuncData} {N ps : List Str} {k : Nat} {sp : Sp}
theorem okD (F : FunD K x qu (defArgs st) (defBody st) (defScope st) dvs [] f fd) (S : FnScope N ps (defScope st)) (ln : ∀ vs H Q E, sp vs H Q E → vs.length = ps.length)
    (hb : ∀ (cv : Value) (B : Around) (ou : List Env) (t : Shared) (J : Hp) (ws : List V) (R : VK) (U : XK), Room k (B.deeper (envOfC qu (defScope st) t.heap.objs.size f cv)) → sp ws J R U →
      ∃ tr, PSs (cxOf CX0 P w K mg bh N qu (defScope st) f cv B ou t J U).nox (defBody st) tr ∧ tr { nx := fun _ J' => R .non J', rt := R } (L2.start N ws) J) :
    FnOk P w K mg bh CX0 (k + 1) f fd ps sp := F.ok S ln fun cv B ou t J ws R U rm h => by
  obtain ⟨tr, q, z⟩ := hb cv B ou t J ws R U rm h
  exact ⟨tr, q.nox, z⟩
theorem bindsFull (F : FunD K x qu (defArgs st) (defBody st) (defScope st) dvs [] f fd) (hd : dvs ≠ [])
    (h : ∀ (T : Addr) (kV dc pm : Value) (an : Option Addr) (cv ct : Value) (us its : List Value), us.length = ps.length → its.length = dvs.length →
      ∃ kk, bindArgs (PySem.W.fnOf x qu (defArgs st) (defBody st) (defScope st) (.ref T) kV dc pm an cv ct) ⟨us, []⟩ = seqItems? (.ref T) >>= kk ∧ kk (some its.toArray) = pure (ps.zip us)) : Binds K fd ps [] := by
  obtain ⟨ds, hv, bd⟩ := FunD.binds1 (ps := ps) F ps.length dvs.length hd (by omega) fun T kV dc pm an cv ct us its h1 h2 => by
    obtain ⟨kk, e1, e2⟩ := h T kV dc pm an cv ct us its h1 h2
    have : its.drop dvs.length = [] := List.drop_eq_nil_of_le (by omega)
    rw [this, List.append_nil]
    exact ⟨kk, e1, e2⟩
  have e : dvs.drop dvs.length = [] := List.drop_eq_nil_of_le (Nat.le_refl _)
  rw [e] at hv
  cases hv
  exact bd
theorem kwAll (F : FunD K x qu (defArgs st) (defBody st) (defScope st) dvs [] f fd) (ks : List Str) (g : {α : Type} → List α → List α) (hd : dvs ≠ []) (hrel : ∀ {zs : List V} {ws : List Value}, Vals zs ws → Vals (g zs) (g ws))
    (h : ∀ (T : Addr) (kV dc pm : Value) (an : Option Addr) (cv ct : Value) (its ws : List Value), its.length = dvs.length → ws.length = ks.length →
      ∃ kk, bindArgs (PySem.W.fnOf x qu (defArgs st) (defBody st) (defScope st) (.ref T) kV dc pm an cv ct) ⟨[], ks.zip ws⟩ = seqItems? (.ref T) >>= kk ∧ kk (some its.toArray) = pure (ps.zip (g ws))) :
    KBn K fd ps 0 ks (fun _ ws => g ws) (fun _ zs => g zs) := by
  obtain ⟨oc, od, dV, kV, dc, pm, an, cv, ct, sl, rfl, lk, hcd, hD, hK⟩ := F.ex
  rcases hD with ⟨e, _⟩ | ⟨_, T, o, its, m, rfl, lT, oT, rT⟩
  · exact absurd e hd
  · refine ⟨fun s us ws X l1 l2 => ?_, fun _ r2 => hrel r2⟩
    obtain rfl : us = [] := List.length_eq_zero_iff.mp l1
    obtain ⟨kk, e1, e2⟩ := h T kV dc pm an cv ct its ws rT.length.symm l2
    refine BindsTo.of_looks fun M => ?_
    rw [e1]
    exact looks_items X lT oT (.of_pure e2)
end
section
variable {X : Cx} {k j : Nat} {f : Addr} {fd : FuncData} {ps ks : List Str} {sp : Sp} {x : Str} {p pos : Pos} {kws : List Keyword} {tk : TA} {g : List Value → List Value → List Value} {gV : List V → List V → List V}
/-- f(k = v, ..) without a positional argument -/
theorem pe_kw0 (F : FnOk X.prog X.w X.K X.mg X.base CX0 k f fd ps sp) (rm : Room j X.A) (hj : k ≤ j) (hg : Gl X x) (hm : X.mg x = some (.ref f)) (hk : PySem.W.keepIn X.K (.ref f) = true) (hb : KBn X.K fd ps 0 ks g gV) (hkw : PK X kws tk)
    (hall : (backToKw pos (keywordEach kws X.env)).all (·.1.isSome) = true := by rfl) (hks : (backToKw pos (keywordEach kws X.env)).filterMap (·.1) = ks := by rfl) (hdb : (x == ("__debug__" : Str)) = false := by decide)
    (hpl : ((backTo pos (starEach [] X.env)).any (·.1) || (backToKw pos (keywordEach kws X.env)).any (·.1.isNone)) = false := by rfl) :
    PE X (.Call (.Name x p) [] kws pos) (tCallN 0 ks.length sp gV E0 tNil tk) := by
  refine ⟨fun pins s σ H Q I h => wpAny_Call_Name_kw (ld_glob I hg hm ?_ hdb)⟩
  refine PySem.W.callWith_KW0 (h₀ := X.base) I.ok.mod.kin hk hall (thn (hkw.run pos pins s σ H _ I h) fun ws s2 hh => ?_) hpl
  obtain ⟨zs, H2, I2, rz, l1, l2, q2⟩ := hh
  refine ⟨I2.kIn, ?_⟩
  rw [hks]
  exact run_fnN (us := []) (vs := []) F (rm.mono hj) hb pass0 I2 .nil rz rfl l2 q2
end
/-! ### heaps -/
theorem SqL.hp {K : PySem.W.Frag} {H : Hp} {a : Addr} {xs : List V} (h : H a = some (.lst xs)) : SqL K H a xs := .inl (.inl h)
theorem SqT.hp {K : PySem.W.Frag} {H : Hp} {a : Addr} {xs : List V} (h : H a = some (.tup xs)) : SqT K H a xs := .inl (.inl h)
/-- all that was tracked, but for what stands at p, is as it was -/
def Kp (p : Addr) (H H' : Hp) : Prop := ∀ b o, b ≠ p → H b = some o → H' b = some o
theorem Kp.refl {p : Addr} {H : Hp} : Kp p H H := fun _ _ _ h => h
theorem Kp.trans {p : Addr} {H H1 H2 : Hp} (a : Kp p H H1) (b : Kp p H1 H2) : Kp p H H2 := fun c o n h => b c o n (a c o n h)
theorem Kp.same {p : Addr} {H H' : Hp} (a : Same H H') : Kp p H H' := fun c o _ h => a c o h
theorem Kp.new {p q : Addr} {H : Hp} {o : HO} (h : H q = none) : Kp p H (upd H q o) := fun b u _ e => by rw [upd_ne (ne_of_none e h)]; exact e
theorem Kp.at_ {p : Addr} {H : Hp} {o : HO} : Kp p H (upd H p o) := fun b u n e => by rw [upd_ne n]; exact e
theorem Same.new {q : Addr} {H : Hp} {o : HO} (h : H q = none) : Same H (upd H q o) := fun b u e => by rw [upd_ne (ne_of_none e h)]; exact e
theorem Same.free' {H H' : Hp} (s : Same H H') {l : Addr} (h : H' l = none) : H l = none := Same.free s h
theorem sameT {K : PySem.W.Frag} {H H' : Hp} {a : Addr} {xs : List V} (e : Same H H') (h : SqT K H a xs) : SqT K H' a xs := by
  rcases h with (h | ⟨o, h⟩) | h
  · exact .inl (.inl (e _ _ h))
  · exact .inl (.inr ⟨o, e _ _ h⟩)
  · exact .inr h
theorem sameK {K : PySem.W.Frag} {H H' : Hp} {a : Addr} {xs : List V} (e : Same H H') : SqK K H H' a xs := ⟨e.seq, sameT e⟩
theorem sameQ {K : PySem.W.Frag} {H H' : Hp} {a : Addr} {xs : List V} (e : Same H H') (h : Sq K H a xs) : Sq K H' a xs := h.imp e.seq (sameT e)
theorem kpL {K : PySem.W.Frag} {p : Addr} {H H' : Hp} {a : Addr} {xs : List V} (e : Kp p H H') (n : a ≠ p) (h : SqL K H a xs) : SqL K H' a xs := by
  rcases h with (h | ⟨o, h⟩) | h
  · exact .inl (.inl (e _ _ n h))
  · exact .inl (.inr ⟨o, e _ _ n h⟩)
  · exact .inr h
mutual
theorem sameD {K : PySem.W.Frag} {H H' : Hp} (e : Same H H') : ∀ (d : PyData) {v : V}, Dp K H v d → Dp K H' v d
  | .none, _, h => by cases h; exact .non
  | .bool b, _, h => by cases h; exact .bl b
  | .int i, _, h => by cases h; exact .int i
  | .str x, _, h => by cases h; exact .str x
  | .list ds, _, h => by
    cases h with
    | lst q r => exact .lst (e.seq q) (sameDs e ds r)
  | .tuple ds, _, h => by
    cases h with
    | tup q r => exact .tup (sameT e q) (sameDs e ds r)
  | .dict _, _, h => by cases h
theorem sameDs {K : PySem.W.Frag} {H H' : Hp} (e : Same H H') : ∀ (ds : List PyData) {vs : List V}, DpAll K H vs ds → DpAll K H' vs ds
  | [], _, h => by cases h; exact .nil
  | d :: ds, _, h => by
    cases h with
    | cons a b => exact .cons (sameD e d a) (sameDs e ds b)
end
end Spk

namespace Spk
open PySem PySem.Spec PyProof.Rows L2
section
variable {X : Cx} {e : Expr} {te : TE} {p2 pos q1 q2 : Pos} {j : Nat}
/-- xs[::-1] of a list: a new list -/
theorem pe_rev (he : PE X e te) : PE X (.Subscript e (.Slice none none (some (.UnaryOp .USub (.Constant (.int 1) j q1) q2)) p2) pos)
    (fun σ H Q => te σ H fun x H1 => ∃ a xs, x = .ref a ∧ SqL X.K H1 a xs ∧ ∀ p, H1 p = none → Q (.ref p) (upd H1 p (.lst xs.reverse))) := by
  refine ⟨fun pins s σ H Q I h => ?_⟩
  refine Subscript_ (thn (he.run pins s σ H _ I h) fun v s1 ⟨x, H1, I1, r1, q1'⟩ => ?_)
  refine wpAny_Slice ?_
  rw [evalPart_none]
  refine wpAny_pure (wpAny_pure ?_)
  have hk : PO X (some (.UnaryOp .USub (.Constant (.int 1) j q1) q2)) _ := po_some (pe_un un_neg pe_int)
  refine thn (hk.run pins s1 σ H1 (fun k H2 => k = some (-1) ∧ ∃ a xs, x = .ref a ∧ SqL X.K H2 a xs ∧ ∀ p, H2 p = none → Q (.ref p) (upd H2 p (.lst xs.reverse))) I1 ⟨_, rfl, _, rfl, rfl, q1'⟩) fun vk s3 ⟨k, H3, I3, pk, ek, a, xs, ex, hx, q⟩ => ?_
  subst ek
  subst ex
  obtain rfl : v = Value.ref a := r1
  have I4 : Inv X pins σ H3 { s3 with heap := s3.heap.push { cls := .type "slice", data := .fields #[.none, .none, vk] } } := I3.kept (t' := s3.toks) fun b ob q => Heap.get?_push_of_some _ q
  show wpAny (model X.prog X.w) X.A (subscriptTail e (.Slice none none (some (.UnaryOp .USub (.Constant (.int 1) j q1) q2)) p2) (.ref a) (.ref s3.heap.objs.size)) (EP X pins σ Q) X.xe { s3 with heap := s3.heap.push { cls := .type "slice", data := .fields #[.none, .none, vk] } }
  obtain ⟨its, r, ht, hz⟩ := I4.list hx
  have hlen := r.length
  refine tail_any (ops := [.ref a, .ref s3.heap.objs.size]) ht.isList.typeIs slot_list_getitem.lookup ?_ (by with_unfolding_all rfl)
  refine wpAny_getItem_list_slice ht.isList (Heap.IsSliceOf.new ..) .none .none pk (by decide) ?_ (by rw [List.size_toArray] <;> omega)
  rw [PySem.W.krv_pick]
  refine ⟨.ref _, _, I4.laid (t' := s3.toks) (o := .lst xs.reverse) (fun b ob q => Heap.get?_push_of_some _ q) (Nat.le_refl _) ?_, rfl, q _ (I4.hok.fresh (Nat.le_refl _))⟩
  refine ⟨by rw [List.length_reverse]; exact hz, its.reverse, 0, ?_, ?_⟩
  · have : ∀ {zs : List V} {ws : List Value} {as : List V} {bs : List Value}, Vals zs ws → Vals as bs → Vals (zs.reverseAux as) (ws.reverseAux bs) := by
      intro zs
      induction zs with
      | nil => intro ws as bs h k; cases h; exact k
      | cons z zs ih =>
        intro ws as bs h k
        cases h with
        | @cons _ u _ us a b =>
          show Vals (zs.reverseAux (z :: as)) (us.reverseAux (u :: bs))
          exact ih b (.cons a k)
    exact this r .nil
  · exact Heap.get?_push_size _ rfl
end
end Spk

namespace Spk
open PySem PySem.Spec PyProof.Rows L2
/-! ### any objects, as data -/
def isNum : PyData → Bool
  | .int _ => true
  | _ => false
def intish : PyData → Bool
  | .int _ => true
  | .bool _ => true
  | _ => false
def boolish : PyData → Bool
  | .bool _ => true
  | _ => false
def tupish : PyData → Bool
  | .tuple _ => true
  | _ => false
def tyN : PyData → String
  | .none => "NoneType"
  | .bool _ => "bool"
  | .int _ => "int"
  | .str _ => "str"
  | .list _ => "list"
  | .tuple _ => "tuple"
  | .dict _ => "dict"
def edgeI (i : Int) : Bool := (decide (-1000000000000000000000000000000 ≤ i) && decide (i ≤ 1000000000000000000000000000000)) || (decide (i = -10000000000000000000000000000000) || decide (i = 10000000000000000000000000000000))
def isEdge : PyData → Bool
  | .int i => edgeI i
  | _ => false
def isPair : PyData → Bool
  | .tuple [a, b] => isEdge a && isEdge b
  | _ => false
def strP (p : Pr) : Bool := edgeI p.1 && edgeI p.2 && (decide (p.1 ≤ p.2) && (decide (p.1 < 10000000000000000000000000000000) && decide (-10000000000000000000000000000000 < p.2)))
/-- the data of a pair -/
def prD (p : Pr) : PyData := .tuple [.int p.1, .int p.2]
def isStr : PyData → Bool
  | .tuple [.int a, .int b] => strP (a, b)
  | _ => false
section
variable {K : PySem.W.Frag} {H : Hp} {v : V} {d : PyData}
theorem dpTy (h : Dp K H v d) : TyX K H v (.type (tyN d)) := by
  cases h with
  | non => exact .base .non
  | bl b => exact .base (.bl b)
  | int i => exact .base (.int i)
  | str x => exact .base (.str x)
  | lst q r =>
    rcases q with (q | ⟨o, q⟩) | ⟨o, its, n, q, c, _⟩
    · exact .base (.lst q)
    · exact .base (.frz q)
    · exact .kList q c
  | tup q r =>
    rcases q with (q | ⟨o, q⟩) | ⟨o, its, n, q, c, _⟩
    · exact .base (.tup q)
    · exact .fTuple q
    · exact .kTuple q c
theorem kitInt (d : PyData) : kitB (tyN d) "int" = some (intish d) := by cases d <;> simp only [tyN, intish] <;> decide +kernel
theorem kitBool (d : PyData) : kitB (tyN d) "bool" = some (boolish d) := by cases d <;> simp only [tyN, boolish] <;> decide +kernel
theorem kitTup (d : PyData) : kitB (tyN d) "tuple" = some (tupish d) := by cases d <;> simp only [tyN, tupish] <;> decide +kernel
theorem isNum_eq (d : PyData) : isNum d = (intish d && !boolish d) := by cases d <;> rfl
end
theorem inV2 (i a b : Int) : inV (.int i) [.int a, .int b] = (decide (i = a) || decide (i = b)) := by
  have e : ∀ a : Int, eqV (.int a) (.int i) = decide (i = a) := fun a => by
    show (a == i) = decide (i = a)
    by_cases h : i = a
    · rw [h, decide_eq_true rfl]; exact beq_self_eq_true a
    · rw [decide_eq_false h]; exact beq_eq_false_iff_ne.mpr (Ne.symm h)
  show (eqV (.int a) (.int i) || (eqV (.int b) (.int i) || false)) = _
  rw [e, e, Bool.or_false]
theorem dpAll_len {K : PySem.W.Frag} {H : Hp} : ∀ {vs : List V} {ds : List PyData}, DpAll K H vs ds → vs.length = ds.length
  | _, _, .nil => rfl
  | _, _, .cons _ t => congrArg Nat.succ (dpAll_len t)
theorem tup_of {K : PySem.W.Frag} {H : Hp} {v : V} {d : PyData} (h : Dp K H v d) (c : tupish d = true) : ∃ a xs ds, v = .ref a ∧ d = .tuple ds ∧ SqT K H a xs ∧ DpAll K H xs ds := by
  cases h with
  | tup sq da => exact ⟨_, _, _, rfl, rfl, sq, da⟩
  | _ => cases c
theorem int_of {K : PySem.W.Frag} {H : Hp} {v : V} {d : PyData} (h : Dp K H v d) (c : isNum d = true) : ∃ i, v = .int i ∧ d = .int i := by
  cases h with
  | int i => exact ⟨i, rfl, rfl⟩
  | _ => cases c
theorem dpAll2 {K : PySem.W.Frag} {H : Hp} {xs : List V} {ds : List PyData} (h : DpAll K H xs ds) (l : xs.length = 2) : ∃ x y d1 d2, xs = [x, y] ∧ ds = [d1, d2] ∧ Dp K H x d1 ∧ Dp K H y d2 := by
  cases h with
  | nil => simp at l
  | cons h1 h =>
    cases h with
    | nil => simp at l
    | cons h2 h =>
      cases h with
      | nil => exact ⟨_, _, _, _, rfl, rfl, h1, h2⟩
      | cons _ _ => simp at l
theorem dpPr {K : PySem.W.Frag} {H : Hp} {v : V} {a b : Int} (h : Dp K H v (.tuple [.int a, .int b])) : ∃ p, v = .ref p ∧ SqT K H p [.int a, .int b] := by
  cases h with
  | tup sq da =>
    cases da with
    | cons h1 h =>
      cases h with
      | cons h2 h =>
        cases h; cases h1; cases h2
        exact ⟨_, rfl, sq⟩
theorem isPair_len {ds : List PyData} (h : ds.length ≠ 2) : isPair (.tuple ds) = false := by
  unfold isPair
  split
  · rename_i e
    cases e
    exact absurd rfl h
  · rfl
theorem isPair_not {d : PyData} (h : ¬ tupish d = true) : isPair d = false := by
  cases d with
  | tuple _ => exact absurd rfl h
  | _ => rfl
theorem isEdge_not {d : PyData} (h : ¬ isNum d = true) : isEdge d = false := by
  cases d with
  | int _ => exact absurd rfl h
  | _ => rfl
theorem edge_of {d : PyData} (h : isEdge d = true) : ∃ a, d = .int a ∧ edgeI a = true := by
  unfold isEdge at h
  split at h
  · exact ⟨_, rfl, h⟩
  · cases h
theorem pair_of {d : PyData} (h : isPair d = true) : ∃ a b, d = .tuple [.int a, .int b] ∧ edgeI a = true ∧ edgeI b = true := by
  unfold isPair at h
  split at h
  · rw [Bool.and_eq_true] at h
    obtain ⟨a, rfl, ha⟩ := edge_of h.1
    obtain ⟨b, rfl, hb⟩ := edge_of h.2
    exact ⟨a, b, rfl, ha, hb⟩
  · cases h
theorem isStr_not {d : PyData} (h : ¬ isPair d = true) : isStr d = false := by
  unfold isStr
  split
  · rename_i a b
    have : (edgeI a && edgeI b) = false := by
      rw [← Bool.not_eq_true]
      exact h
    unfold strP
    rw [this, Bool.false_and]
  · rfl
theorem str_of {d : PyData} (h : isStr d = true) : ∃ a b, d = prD (a, b) ∧ strP (a, b) = true := by
  unfold isStr at h
  split at h
  · exact ⟨_, _, rfl, h⟩
  · cases h
/-- refs to tuples of two ints -/
def Pd (H : Hp) : List Addr → List Pr → Prop
  | [], [] => True
  | t :: ts, p :: ps => H t = some (.tup [.int p.1, .int p.2]) ∧ Pd H ts ps
  | _, _ => False
theorem Pd.len {H : Hp} : ∀ {ts : List Addr} {ps : List Pr}, Pd H ts ps → ts.length = ps.length
  | [], [], _ => rfl
  | t :: ts, p :: ps, h => by simp [Pd.len h.2]
  | [], _ :: _, h => h.elim
  | _ :: _, [], h => h.elim
theorem Pd.same {H H' : Hp} (e : Same H H') : ∀ {ts : List Addr} {ps : List Pr}, Pd H ts ps → Pd H' ts ps
  | [], [], _ => trivial
  | t :: ts, p :: ps, h => ⟨e _ _ h.1, Pd.same e h.2⟩
  | [], _ :: _, h => h.elim
  | _ :: _, [], h => h.elim
/-- what changes is no tuple -/
theorem Pd.kp {q : Addr} {H H' : Hp} (e : Kp q H H') (hq : ∀ xs, H q ≠ some (.tup xs)) : ∀ {ts : List Addr} {ps : List Pr}, Pd H ts ps → Pd H' ts ps
  | [], [], _ => trivial
  | t :: ts, p :: ps, h => ⟨e _ _ (fun z => hq _ (z ▸ h.1)) h.1, Pd.kp e hq h.2⟩
  | [], _ :: _, h => h.elim
  | _ :: _, [], h => h.elim
theorem Pd.get {H : Hp} : ∀ {ts : List Addr} {ps : List Pr}, Pd H ts ps → ∀ {i : Nat} {t : Addr}, ts[i]? = some t → ∃ p, ps[i]? = some p ∧ H t = some (.tup [.int p.1, .int p.2])
  | [], [], _, i, t, h => by simp at h
  | t :: ts, p :: ps, h, 0, t', e => by
    simp at e; subst e
    exact ⟨p, rfl, h.1⟩
  | t :: ts, p :: ps, h, i + 1, t', e => by
    obtain ⟨q, h1, h2⟩ := Pd.get h.2 (i := i) (t := t') (by simpa using e)
    exact ⟨q, by simpa using h1, h2⟩
  | [], _ :: _, h, _, _, _ => h.elim
  | _ :: _, [], h, _, _, _ => h.elim
theorem Pd.app {H : Hp} : ∀ {ts : List Addr} {ps : List Pr} {us : List Addr} {qs : List Pr}, Pd H ts ps → Pd H us qs → Pd H (ts ++ us) (ps ++ qs)
  | [], [], _, _, _, h => h
  | t :: ts, p :: ps, _, _, h, k => ⟨h.1, Pd.app h.2 k⟩
  | [], _ :: _, _, _, h, _ => h.elim
  | _ :: _, [], _, _, h, _ => h.elim
theorem Pd.set {H : Hp} : ∀ {ts : List Addr} {ps : List Pr} (i : Nat) {t : Addr} {p : Pr}, Pd H ts ps → H t = some (.tup [.int p.1, .int p.2]) → Pd H (ts.set i t) (ps.set i p)
  | [], [], _, _, _, h, _ => h
  | t :: ts, p :: ps, 0, _, _, h, k => ⟨k, h.2⟩
  | t :: ts, p :: ps, i + 1, _, _, h, k => ⟨h.1, Pd.set i h.2 k⟩
  | [], _ :: _, _, _, _, h, _ => h.elim
  | _ :: _, [], _, _, _, h, _ => h.elim
theorem Pd.dp {K : PySem.W.Frag} {H : Hp} : ∀ {ts : List Addr} {ps : List Pr}, Pd H ts ps → DpAll K H (ts.map V.ref) (ps.map prD)
  | [], [], _ => .nil
  | t :: ts, p :: ps, h => .cons (.tup (SqT.hp h.1) (.cons (.int _) (.cons (.int _) .nil))) (Pd.dp h.2)
  | [], _ :: _, h => h.elim
  | _ :: _, [], h => h.elim
/-- the draws of a law -/
def BagAt (H : Hp) (p : Addr) (c : Int) : Prop := ∃ b0 b1 b2 b3 : Int, H p = some (.lst [.int b0, .int b1, .int b2, .int b3]) ∧ 0 ≤ b0 ∧ 0 ≤ b1 ∧ b1 < 2305843009213693951 ∧ 0 ≤ b2 ∧ b2 ≤ 1073741824 ∧ 0 ≤ b3 ∧ b3 ≤ c
theorem BagAt.mono {H : Hp} {p : Addr} {c d : Int} (h : BagAt H p c) (e : c ≤ d) : BagAt H p d := by
  obtain ⟨b0, b1, b2, b3, h0, h1, h2, h3, h4, h5, h6, h7⟩ := h
  exact ⟨b0, b1, b2, b3, h0, h1, h2, h3, h4, h5, h6, by omega⟩
theorem BagAt.same {H H' : Hp} {p : Addr} {c : Int} (h : BagAt H p c) (e : Same H H') : BagAt H' p c := by
  obtain ⟨b0, b1, b2, b3, h0, h1⟩ := h
  exact ⟨b0, b1, b2, b3, e _ _ h0, h1⟩
theorem BagAt.lst {H : Hp} {p : Addr} {c : Int} (h : BagAt H p c) : ∃ xs, H p = some (.lst xs) := by
  obtain ⟨b0, b1, b2, b3, h0, h1⟩ := h
  exact ⟨_, h0⟩
/-- all but the bag at p is as it was, what was free too -/
def But (p : Addr) (H H' : Hp) : Prop := ∀ b, b ≠ p → H' b = H b
theorem But.kp {p : Addr} {H H' : Hp} (h : But p H H') : Kp p H H' := fun b o n e => (h b n).trans e
theorem But.trans {p : Addr} {H H1 H2 : Hp} (a : But p H H1) (b : But p H1 H2) : But p H H2 := fun c n => (b c n).trans (a c n)
theorem But.refl {p : Addr} {H : Hp} : But p H H := fun _ _ => rfl
theorem lgDiv {i m : Int} (h0 : 0 < m) (h : m ≤ 1000000000000000000000000000000000000000000000) : CDivW i m :=
  wide_div (b := 200) h0 (by omega) (by decide) (by decide)
theorem vals_rev2 {zs : List V} {ws : List Value} (r : Vals zs ws) : Vals zs.reverse ws.reverse := by
  have : ∀ {zs : List V} {ws : List Value} {as : List V} {bs : List Value}, Vals zs ws → Vals as bs → Vals (zs.reverseAux as) (ws.reverseAux bs) := by
    intro zs
    induction zs with
    | nil => intro ws as bs h k; cases h; exact k
    | cons z zs ih =>
      intro ws as bs h k
      cases h with
      | @cons _ u _ us a b =>
        show Vals (zs.reverseAux (z :: as)) (us.reverseAux (u :: bs))
        exact ih b (.cons a k)
  exact this r .nil
end Spk
namespace Spk
open PySem PySem.Spec PyProof.Rows L2
theorem eqvAllPs : ∀ ps qs : List Pr, PyData.eqvAll (ps.map prD) (qs.map prD) = decide (ps = qs)
  | [], [] => rfl
  | p :: ps, [] => rfl
  | [], q :: qs => rfl
  | p :: ps, q :: qs => by
    show (((p.1 == q.1) && ((p.2 == q.2) && true)) && PyData.eqvAll (ps.map prD) (qs.map prD)) = decide (p :: ps = q :: qs)
    rw [eqvAllPs ps qs]
    obtain ⟨a, b⟩ := p
    obtain ⟨c, d⟩ := q
    by_cases h1 : a = c <;> by_cases h2 : b = d <;> by_cases h3 : ps = qs <;> simp [h1, h2, h3]
theorem eqvPs (ps qs : List Pr) : PyData.eqv (.list (ps.map prD)) (.list (qs.map prD)) = decide (ps = qs) := eqvAllPs ps qs
theorem canLayPs : ∀ ps : List Pr, PyData.canLayAll0 (ps.map prD) = true
  | [] => rfl
  | p :: ps => by
    show (PyData.canLay0 (prD p) && PyData.canLayAll0 (ps.map prD)) = true
    rw [canLayPs ps]; rfl
theorem depthPs : ∀ ps : List Pr, PyData.depthAll (ps.map prD) ≤ 1
  | [] => Nat.zero_le _
  | p :: ps => by
    show max (PyData.depth (prD p)) (PyData.depthAll (ps.map prD)) ≤ 1
    exact Nat.max_le.mpr ⟨by show PyData.depth (.tuple [.int p.1, .int p.2]) ≤ 1; simp [PyData.depth, PyData.depthAll], depthPs ps⟩
theorem shapedPs (ps : List Pr) : SeqAt.shaped (.list (ps.map prD)) = true := by
  have h1 : PyData.canLay0 (.list (ps.map prD)) = true := canLayPs ps
  have h2 : PyData.depth (.list (ps.map prD)) ≤ 64 := by
    have := depthPs ps
    simp only [PyData.depth]; omega
  unfold SeqAt.shaped
  rw [h1, decide_eq_true h2]; rfl
theorem dpAll_get {K : PySem.W.Frag} {H : Hp} : ∀ {xs : List V} {ds : List PyData}, DpAll K H xs ds → ∀ {i : Nat} {x : V}, xs[i]? = some x → ∃ d, d ∈ ds ∧ Dp K H x d
  | _, _, .nil, i, x, h => by simp at h
  | _, _, .cons a t, 0, x, h => by
    simp at h; subst h
    exact ⟨_, List.mem_cons_self, a⟩
  | _, _, .cons a t, i + 1, x, h => by
    obtain ⟨d, h1, h2⟩ := dpAll_get t (i := i) (x := x) (by simpa using h)
    exact ⟨d, List.mem_cons_of_mem _ h1, h2⟩
def endsV (z : Bool) : V := if z then .str "shut" else .str "half"
theorem endsV_shut (z : Bool) : decide (endsV z = .str "shut") = z := by cases z <;> decide +kernel
theorem endsV_half (z : Bool) : decide (endsV z = .str "half") = !z := by cases z <;> decide +kernel
theorem endsV_scal (z : Bool) : scal (endsV z) (.str "shut") = true := by cases z <;> rfl
theorem endsV_scalH (z : Bool) : scal (endsV z) (.str "half") = true := by cases z <;> rfl
theorem strP_le {p : Pr} (h : strP p = true) : p.1 ≤ p.2 := by
  unfold strP at h
  simp only [Bool.and_eq_true, decide_eq_true_eq] at h
  exact h.2.1
theorem map_get {α β : Type} {f : α → β} {l : List α} {i : Nat} {y : β} (h : (l.map f)[i]? = some y) : ∃ x, l[i]? = some x ∧ y = f x := by
  rw [List.getElem?_map] at h
  cases e : l[i]? with
  | none => rw [e] at h; cases h
  | some x => rw [e] at h; exact ⟨x, rfl, (Option.some.inj h).symm⟩
theorem take_more {α : Type} {l : List α} {i : Nat} {x : α} (h : l[i]? = some x) : l.take (i + 1) = l.take i ++ [x] := by
  rw [List.take_add_one, h]; rfl
theorem stepJ_len (l : List Pr) (s : List Pr × Pr) : ((l.foldl stepJ s).1).length ≤ s.1.length + l.length := by
  induction l generalizing s with
  | nil => exact Nat.le_refl _
  | cons p r ih =>
    have h := ih (stepJ s p)
    have : (stepJ s p).1.length ≤ s.1.length + 1 := by unfold stepJ; split <;> simp
    simp only [List.foldl_cons, List.length_cons]; omega
theorem stepJ_len0 (l : List Pr) (p : Pr) : ((l.foldl stepJ ([], p)).1).length ≤ l.length := by
  have := stepJ_len l ([], p)
  simpa using this
end Spk
namespace Spk
open PySem PySem.Spec PyProof.Rows L2
/-- the pair that a ref's tuple holds -/
def kOf (H : Hp) : V → Int × Int
  | .ref t => match H t with
    | some (.tup [.int a, .int b]) => (a, b)
    | _ => (0, 0)
  | _ => (0, 0)
theorem kOf_at {H : Hp} {t : Addr} {p : Pr} (h : H t = some (.tup [.int p.1, .int p.2])) : kOf H (.ref t) = p := by
  show (match H t with | some (.tup [.int a, .int b]) => (a, b) | _ => (0, 0)) = p
  rw [h]
theorem Pd.map {H : Hp} : ∀ {ts : List Addr} {ps : List Pr}, Pd H ts ps → (ts.map V.ref).map (kOf H) = ps
  | [], [], _ => rfl
  | t :: ts, p :: ps, h => by
    show kOf H (.ref t) :: (ts.map V.ref).map (kOf H) = p :: ps
    rw [kOf_at h.1, Pd.map h.2]
  | [], _ :: _, h => h.elim
  | _ :: _, [], h => h.elim
theorem Pd.all {H : Hp} : ∀ {ts : List Addr} {ps : List Pr}, Pd H ts ps → ∀ x ∈ ts.map V.ref, ∃ t, x = V.ref t ∧ H t = some (.tup [.int (kOf H x).1, .int (kOf H x).2])
  | [], [], _, x, hx => by simp at hx
  | t :: ts, p :: ps, h, x, hx => by
    rcases List.mem_cons.mp (show x ∈ V.ref t :: ts.map V.ref from hx) with e | hx
    · exact ⟨t, e, by rw [e, kOf_at h.1]; exact h.1⟩
    · exact Pd.all h.2 x hx
  | [], _ :: _, h, _, _ => h.elim
  | _ :: _, [], h, _, _ => h.elim
theorem refs_of {H : Hp} : ∀ {ys : List V}, (∀ x ∈ ys, ∃ t, x = V.ref t ∧ H t = some (.tup [.int (kOf H x).1, .int (kOf H x).2])) → ∃ us, ys = us.map V.ref ∧ Pd H us (ys.map (kOf H))
  | [], _ => ⟨[], rfl, trivial⟩
  | y :: ys, h => by
    obtain ⟨t, e, ht⟩ := h y (by simp)
    obtain ⟨us, e2, pd⟩ := refs_of (ys := ys) fun x hx => h x (by simp [hx])
    exact ⟨t :: us, by rw [e, e2]; rfl, ht, pd⟩
theorem ltP_ple {k : V → Int × Int} {x y : V} (h : ltP k y x = false) : ple (k x) (k y) := by
  have h2 : ¬ (SrtO.lexB (k y) (k x) = true) := by rw [show SrtO.lexB (k y) (k x) = false from h]; decide
  rw [SrtO.lexB_iff] at h2
  unfold ple
  omega
/-- sorted of refs to pairs -/
theorem sorted_refs {H : Hp} {ts : List Addr} {ps : List Pr} {ys : List V} (pd : Pd H ts ps) (hs : SrtO.Srtd (ltP (kOf H)) ys) (hb : SrtO.Stb (ltP (kOf H)) ys (ts.map V.ref)) :
    ∃ us, ys = us.map V.ref ∧ Pd H us (srt ps) := by
  obtain ⟨us, e, pu⟩ := refs_of (H := H) (ys := ys) fun x hx => pd.all x (hb.perm.mem_iff.mp hx)
  have hp : (ys.map (kOf H)).Perm ps := by
    have := hb.perm.map (kOf H)
    rwa [pd.map] at this
  have hso : (ys.map (kOf H)).Pairwise ple := List.pairwise_map.mpr (hs.imp fun h => ltP_ple h)
  have e2 : ys.map (kOf H) = srt ps := sorted_uniq hso (srt_sorted ps) (hp.trans (srt_perm ps).symm)
  exact ⟨us, e, e2 ▸ pu⟩
end Spk
namespace Spk
open PySem PySem.Spec PyProof.Rows L2
theorem gapd_iff : ∀ {l : List Pr}, gapd l = true ↔ ∀ i p q, l[i]? = some p → l[i + 1]? = some q → p.2 < q.1
  | [] => ⟨fun _ i p q h _ => by simp at h, fun _ => rfl⟩
  | [x] => ⟨fun _ i p q _ h => by simp at h, fun _ => rfl⟩
  | x :: y :: r => by
    have ih := gapd_iff (l := y :: r)
    constructor
    · intro h i p q hp hq
      unfold gapd at h
      rw [Bool.and_eq_true, decide_eq_true_eq] at h
      cases i with
      | zero => simp at hp hq; subst hp hq; exact h.1
      | succ i => exact ih.mp h.2 i p q (by simpa using hp) (by simpa using hq)
    · intro h
      unfold gapd
      rw [Bool.and_eq_true, decide_eq_true_eq]
      exact ⟨h 0 x y rfl rfl, ih.mpr fun i p q hp hq => h (i + 1) p q (by simpa using hp) (by simpa using hq)⟩
/-- what the first i pairs have, if the list is in one form so far -/
def oneTo (z : Bool) (l : List Pr) (i : Nat) : Prop := ∀ j, j < i → ∀ p, l[j]? = some p → emp z p = false ∧ ∀ k q, j = k + 1 → l[k]? = some q → q.2 < p.1
theorem oneTo_all {z : Bool} {l : List Pr} (h : oneTo z l l.length) : oneF z l = true := by
  unfold oneF
  rw [Bool.and_eq_true, List.all_eq_true]
  constructor
  · intro p hp
    obtain ⟨j, hj⟩ := List.mem_iff_getElem?.mp hp
    have hlt : j < l.length := by
      obtain ⟨h1, _⟩ := List.getElem?_eq_some_iff.mp hj
      exact h1
    rw [(h j hlt p hj).1]; rfl
  · refine gapd_iff.mpr fun i p q hp hq => ?_
    have hlt : i + 1 < l.length := by
      obtain ⟨h1, _⟩ := List.getElem?_eq_some_iff.mp hq
      exact h1
    exact (h (i + 1) hlt q hq).2 i p rfl hp
theorem oneF_empty {z : Bool} {l : List Pr} {i : Nat} {p : Pr} (hp : l[i]? = some p) (e : emp z p = true) : oneF z l = false := by
  rw [← Bool.not_eq_true]
  intro h
  unfold oneF at h
  rw [Bool.and_eq_true, List.all_eq_true] at h
  have := h.1 p (List.mem_of_getElem? hp)
  rw [e] at this
  cases this
theorem oneF_gap {z : Bool} {l : List Pr} {i : Nat} {p q : Pr} (hp : l[i]? = some p) (hq : l[i + 1]? = some q) (e : ¬ p.2 < q.1) : oneF z l = false := by
  rw [← Bool.not_eq_true]
  intro h
  unfold oneF at h
  rw [Bool.and_eq_true] at h
  exact e (gapd_iff.mp h.2 i p q hp hq)
theorem oneTo_more {z : Bool} {l : List Pr} {i : Nat} {p : Pr} (h : oneTo z l i) (hp : l[i]? = some p) (e : emp z p = false) (g : ∀ k q, i = k + 1 → l[k]? = some q → q.2 < p.1) : oneTo z l (i + 1) := by
  intro j hj x hx
  by_cases c : j < i
  · exact h j c x hx
  · obtain rfl : j = i := by omega
    obtain rfl : p = x := Option.some.inj (hp.symm.trans hx)
    exact ⟨e, g⟩
theorem emp_half {p : Pr} (h : p.1 ≤ p.2) : emp false p = decide (p.1 = p.2) := by
  show decide (p.2 ≤ p.1) = decide (p.1 = p.2)
  rw [decide_eq_decide]; omega
theorem emp_shut {p : Pr} (h : p.1 ≤ p.2) : emp true p = false := by
  show decide (p.2 < p.1) = false
  rw [decide_eq_false_iff_not]; omega
end Spk
namespace Spk
open PySem PySem.Spec PyProof.Rows L2
theorem mulB {x f F : Int} (h1 : -1 ≤ x) (h2 : x ≤ 6) (f0 : 0 ≤ f) (fF : f ≤ F) : -F ≤ x * f ∧ x * f ≤ 6 * F := by
  have : x = -1 ∨ x = 0 ∨ x = 1 ∨ x = 2 ∨ x = 3 ∨ x = 4 ∨ x = 5 ∨ x = 6 := by omega
  rcases this with h | h | h | h | h | h | h | h <;> subst h <;> omega
theorem rowStep {f at' X Y : Int} {i : Nat} (f1 : 1 ≤ f) (f2 : f ≤ 200000000000000000001) (hi : i < 21) (x1 : -1 ≤ X) (x2 : X ≤ 3) (y1 : 0 ≤ Y) (y2 : Y ≤ 3)
    (a1 : -(200000000000000000001 * (20 + 6 * (i : Int))) ≤ at') (a2 : at' ≤ 200000000000000000001 * (20 + 6 * (i : Int))) :
    (-1000000000000000000000000000000 ≤ at' + X * f ∧ at' + X * f ≤ at' + (X + Y) * f ∧ at' + (X + Y) * f ≤ 1000000000000000000000000000000) ∧
      (-(200000000000000000001 * (20 + 6 * (((i + 1 : Nat) : Nat) : Int))) ≤ at' + (X + Y) * f ∧ at' + (X + Y) * f ≤ 200000000000000000001 * (20 + 6 * (((i + 1 : Nat) : Nat) : Int))) := by
  obtain ⟨p1, p2⟩ := mulB (x := X) (f := f) (F := 200000000000000000001) (by omega) (by omega) (by omega) f2
  obtain ⟨q1, q2⟩ := mulB (x := X + Y) (f := f) (F := 200000000000000000001) (by omega) (by omega) (by omega) f2
  have e : (X + Y) * f = X * f + Y * f := Int.add_mul X Y f
  have y0 : 0 ≤ Y * f := Int.mul_nonneg y1 (by omega)
  generalize (X + Y) * f = w at *
  generalize X * f = u at *
  generalize Y * f = v at *
  omega
theorem strP_of {b e : Int} (h1 : -1000000000000000000000000000000 ≤ b) (h2 : b ≤ e) (h3 : e ≤ 1000000000000000000000000000000) : strP (b, e) = true := by
  unfold strP edgeI
  simp only [Bool.and_eq_true, Bool.or_eq_true, decide_eq_true_eq]
  omega
theorem strP_first {p : Pr} (h : strP p = true) : strP (-10000000000000000000000000000000, p.2) = true := by
  obtain ⟨a, b⟩ := p
  unfold strP edgeI at h ⊢
  simp only [Bool.and_eq_true, Bool.or_eq_true, decide_eq_true_eq] at h ⊢
  simp only [Int.reduceNeg, Int.reduceLE, Int.reduceLT, Int.reduceEq, true_and, and_true, true_or, or_true, false_or, or_false, false_and, and_false]
  omega
theorem strP_last {p : Pr} (h : strP p = true) : strP (p.1, 10000000000000000000000000000000) = true := by
  obtain ⟨a, b⟩ := p
  unfold strP edgeI at h ⊢
  simp only [Bool.and_eq_true, Bool.or_eq_true, decide_eq_true_eq] at h ⊢
  simp only [Int.reduceNeg, Int.reduceLE, Int.reduceLT, Int.reduceEq, true_and, and_true, true_or, or_true, false_or, or_false, false_and, and_false]
  omega
theorem set_good {l : List Pr} {i : Nat} {p : Pr} (h : ∀ x ∈ l, strP x = true) (hp : strP p = true) : ∀ x ∈ l.set i p, strP x = true := fun x hx => by
  rcases List.mem_or_eq_of_mem_set hx with h1 | h1
  · exact h x h1
  · exact h1 ▸ hp
theorem shapedNil : SeqAt.shaped (.list []) = true := shapedPs []
theorem eqvNil (ps : List Pr) : PyData.eqv (.list (ps.map prD)) (.list []) = decide (ps = []) := eqvPs ps []
end Spk
namespace Spk
open PySem PySem.Spec PyProof.Rows L2
theorem ixN_nat {n j : Nat} {i : Int} (e : i = (j : Int)) (h : j < n) : ixN n i = some j := by
  subst e
  unfold ixN
  rw [if_pos (Int.natCast_nonneg j), if_pos (Int.ofNat_lt.mpr h)]
  simp
theorem ixN_last {n : Nat} (h : 0 < n) : ixN n (-1) = some (n - 1) := by
  unfold ixN
  rw [if_neg (by decide), if_pos (by omega)]
  congr 1
  omega
theorem at_last {ts : List Addr} {t : Addr} (h : ts[ts.length - 1]? = some t) : atI (ts.map V.ref) (-1) = some (.ref t) := by
  have hl : ts.length - 1 < ts.length := (List.getElem?_eq_some_iff.mp h).1
  unfold atI
  rw [ixN_last (by rw [List.length_map]; omega)]
  show (ts.map V.ref)[(ts.map V.ref).length - 1]? = some (.ref t)
  rw [List.length_map, List.getElem?_map, h]; rfl
theorem at_ref {ts : List Addr} {t : Addr} {j : Nat} {i : Int} (e : i = (j : Int)) (h : ts[j]? = some t) : atI (ts.map V.ref) i = some (.ref t) :=
  at_of e (by rw [List.getElem?_map, h]; rfl)
theorem refs_set {ts : List Addr} {j : Nat} {t : Addr} : (ts.map V.ref).set j (.ref t) = (ts.set j t).map V.ref := by
  rw [List.map_set]
end Spk
namespace Spk
open PySem PySem.Spec PyProof.Rows L2
theorem reprB (b : Bool) : (PyData.bool b).showable = true ∧ (PyData.bool b).hasDict = false ∧ (PyData.bool b).depth ≤ 64 ∧ (PyData.bool b).shown.length ≤ sizeLine := by
  cases b <;> decide +kernel
theorem reprBB (b : Bool) : (PyData.list [.bool b, .bool b]).showable = true ∧ (PyData.list [.bool b, .bool b]).hasDict = false ∧ (PyData.list [.bool b, .bool b]).depth ≤ 64 ∧ (PyData.list [.bool b, .bool b]).shown.length ≤ sizeLine := by
  cases b <;> decide +kernel
theorem mode_of {j : Nat} {x : V} (h : ([.str "half", .str "shut"] : List V)[j]? = some x) : ∃ z, x = endsV z := by
  match j, h with
  | 0, h => exact ⟨false, (Option.some.inj h).symm⟩
  | 1, h => exact ⟨true, (Option.some.inj h).symm⟩
theorem pd_nil {H : Hp} {us : List Addr} (h : Pd H us []) : us = [] := by
  cases us with
  | nil => rfl
  | cons _ _ => exact h.elim
/-- behind a bag and what is drawn with it all that was tracked ahead is as it was -/
theorem bag_same {p : Addr} {H H1 H2 : Hp} (np : H p = none) (a : But p H H1) (b : Kp p H1 H2) : Same H H2 := fun c o h =>
  b c o (ne_of_none h np) ((a c (ne_of_none h np)).trans h)
theorem union_eqv {z : Bool} {ps : List Pr} (h : ∀ p ∈ ps, strP p = true) : PyData.eqv (.list ((unionM z ps).map prD)) (.list (ps.map prD)) = oneF z ps := by
  rw [eqvPs, Bool.eq_iff_iff, decide_eq_true_eq]
  exact union_fix fun p hp => strP_le (h p hp)
end Spk
namespace Spk
open PySem PySem.Spec PyProof.Rows L2
theorem cut_to {us : List Addr} {i : Int} {n : Nat} (e : i = (n : Int)) : cutV (us.map V.ref) none (some i) = (us.take n).map V.ref := by
  subst e
  unfold cutV
  rw [HT.sIx_none, HT.sIx_nat, List.drop_zero, Nat.sub_zero, List.map_take, List.length_map]
  by_cases h : n ≤ us.length
  · rw [Nat.min_eq_left h]
  · rw [Nat.min_eq_right (by omega), List.take_of_length_le (by rw [List.length_map]; omega), List.take_of_length_le (by rw [List.length_map]; omega)]
theorem cut_from {us : List Addr} {i : Int} {n : Nat} (e : i = (n : Int)) : cutV (us.map V.ref) (some i) none = (us.drop n).map V.ref := by
  subst e
  unfold cutV
  rw [HT.sIx_none, HT.sIx_nat, List.map_drop, List.length_map]
  by_cases h : n ≤ us.length
  · rw [Nat.min_eq_left h]
    exact List.take_of_length_le (by rw [List.length_drop, List.length_map]; omega)
  · rw [Nat.min_eq_right (by omega), List.drop_of_length_le (by rw [List.length_map]; omega), List.drop_of_length_le (by rw [List.length_map]; omega), List.take_nil]
theorem Pd.take {H : Hp} : ∀ {ts : List Addr} {ps : List Pr} (n : Nat), Pd H ts ps → Pd H (ts.take n) (ps.take n)
  | [], [], _, _ => by simp [Pd]
  | t :: ts, p :: ps, 0, _ => by simp [Pd]
  | t :: ts, p :: ps, n + 1, h => ⟨h.1, Pd.take n h.2⟩
  | [], _ :: _, _, h => h.elim
  | _ :: _, [], _, h => h.elim
theorem Pd.drop {H : Hp} : ∀ {ts : List Addr} {ps : List Pr} (n : Nat), Pd H ts ps → Pd H (ts.drop n) (ps.drop n)
  | [], [], _, _ => by simp [Pd]
  | t :: ts, p :: ps, 0, h => h
  | t :: ts, p :: ps, n + 1, h => Pd.drop n h.2
  | [], _ :: _, _, h => h.elim
  | _ :: _, [], _, h => h.elim
theorem bag_not_refs {H : Hp} {p s : Addr} {c : Int} {ts : List Addr} (bg : BagAt H p c) (h : H s = some (.lst (ts.map V.ref))) : s ≠ p := by
  rintro rfl
  obtain ⟨b0, b1, b2, b3, e, _⟩ := bg
  rw [e] at h
  have h := HO.lst.inj (Option.some.inj h)
  cases ts with
  | nil => cases h
  | cons t ts => exact V.noConfusion (List.cons.inj h).1
theorem bag_not_tup {H : Hp} {p t : Addr} {c : Int} {xs : List V} (bg : BagAt H p c) (h : H t = some (.tup xs)) : t ≠ p := by
  rintro rfl
  obtain ⟨b0, b1, b2, b3, e, _⟩ := bg
  rw [e] at h; cases h
theorem bag_kp {H H' : Hp} {p q : Addr} {c : Int} (bg : BagAt H p c) (k : Kp q H H') (n : p ≠ q) : BagAt H' p c := by
  obtain ⟨b0, b1, b2, b3, e, r⟩ := bg
  exact ⟨b0, b1, b2, b3, k _ _ n e, r⟩
end Spk
namespace Spk
open PySem PySem.Spec PyProof.Rows L2
theorem strP_cutR {b : Pr} {c : Int} (h : strP b = true) (h1 : b.1 ≤ c) (h2 : c ≤ b.2) (h3 : -1000000000000000000000000000000 ≤ c) (h4 : c ≤ 1000000000000000000000000000000) : strP (c, b.2) = true := by
  unfold strP edgeI at *
  simp only [Bool.and_eq_true, Bool.or_eq_true, decide_eq_true_eq] at *
  omega
theorem strP_cutL {b : Pr} {c : Int} (h : strP b = true) (h1 : b.1 ≤ c) (h2 : c ≤ b.2) (h3 : -1000000000000000000000000000000 ≤ c) (h4 : c ≤ 1000000000000000000000000000000) : strP (b.1, c) = true := by
  unfold strP edgeI at *
  simp only [Bool.and_eq_true, Bool.or_eq_true, decide_eq_true_eq] at *
  omega
end Spk
namespace Spk
open PySem PySem.Spec PyProof.Rows L2
theorem strP_ext {c p : Pr} (h : strP c = true) (k : strP p = true) (e : c.2 < p.2) : strP (c.1, p.2) = true := by
  unfold strP edgeI at *
  simp only [Bool.and_eq_true, Bool.or_eq_true, decide_eq_true_eq] at *
  omega
end Spk

namespace Spk
open PySem PySem.Spec PyProof.Rows L2
/-! ### the draws of the later laws -/
def BagN (H : Hp) (p : Addr) : Prop := ∃ b0 b1 : Int, H p = some (.lst [.int b0, .int b1]) ∧ 0 ≤ b0 ∧ 0 ≤ b1 ∧ b1 < 2147483629
theorem BagN.same {H H' : Hp} {p : Addr} (h : BagN H p) (e : Same H H') : BagN H' p := by
  obtain ⟨b0, b1, h0, h1⟩ := h
  exact ⟨b0, b1, e _ _ h0, h1⟩
theorem BagN.kp {H H' : Hp} {p q : Addr} (h : BagN H p) (k : Kp q H H') (n : p ≠ q) : BagN H' p := by
  obtain ⟨b0, b1, h0, h1⟩ := h
  exact ⟨b0, b1, k _ _ n h0, h1⟩
theorem bagN_ne {H : Hp} {p q : Addr} {o : HO} (h : BagN H p) (e : H q = some o) (n : ∀ b0 b1 : Int, o ≠ .lst [.int b0, .int b1]) : q ≠ p := by
  rintro rfl
  obtain ⟨b0, b1, h0, _⟩ := h
  rw [h0] at e
  exact n b0 b1 (Option.some.inj e).symm
theorem bagN_tup {H : Hp} {p t : Addr} {xs : List V} (h : BagN H p) (e : H t = some (.tup xs)) : t ≠ p := bagN_ne h e fun _ _ z => nomatch z
theorem bagN_refs {H : Hp} {p s : Addr} {ts : List Addr} (bg : BagN H p) (h : H s = some (.lst (ts.map V.ref))) : s ≠ p := bagN_ne bg h fun b0 b1 z => by
  have z := HO.lst.inj z
  cases ts with
  | nil => cases z
  | cons t ts => exact V.noConfusion (List.cons.inj z).1
theorem bagN_none {H : Hp} {p q : Addr} (h : BagN H p) (e : H q = none) : q ≠ p := by
  rintro rfl
  obtain ⟨b0, b1, h0, _⟩ := h
  rw [h0] at e; cases e
theorem BagN.ne_tup {H : Hp} {p : Addr} (h : BagN H p) : ∀ xs, H p ≠ some (.tup xs) := fun xs e => by
  obtain ⟨b0, b1, h0, _⟩ := h
  rw [h0] at e; cases e
/-! ### windows, terms -/
def winP (w : Pr) : Bool := edgeI w.1 && edgeI w.2 && decide (w.1 < w.2)
theorem winP_of {a b : Int} (ha : (-1000000000000000000000000000000 ≤ a ∧ a ≤ 1000000000000000000000000000000) ∨ a = -10000000000000000000000000000000)
    (hb : (-1000000000000000000000000000000 ≤ b ∧ b ≤ 1000000000000000000000000000000) ∨ b = 10000000000000000000000000000000) (h : a < b) : winP (a, b) = true := by
  unfold winP edgeI
  simp only [Bool.and_eq_true, Bool.or_eq_true, decide_eq_true_eq]
  omega
theorem winP_lt {w : Pr} (h : winP w = true) : w.1 < w.2 := by
  unfold winP at h
  simp only [Bool.and_eq_true, decide_eq_true_eq] at h
  exact h.2
theorem winP_pair {w : Pr} (h : winP w = true) : isPair (prD w) = true := by
  unfold winP at h
  rw [Bool.and_eq_true] at h
  exact h.1
theorem strP_first' {p : Pr} (h : strP p = true) : -10000000000000000000000000000000 < p.2 := by
  unfold strP at h
  simp only [Bool.and_eq_true, decide_eq_true_eq] at h
  exact h.2.2.2
def termV (t : Nat) : V := if t = 0 then .str "busy" else if t = 1 then .str "covered" else .str "clash"
theorem term_scal (t : Nat) (x : Str) : scal (termV t) (.str x) = true := by
  unfold termV
  split
  · rfl
  · split <;> rfl
theorem term_0 (t : Nat) : decide (termV t = .str "busy") = decide (t = 0) := by
  unfold termV
  split
  · rename_i h; subst h; decide +kernel
  · rename_i h
    rw [decide_eq_false h]
    split <;> decide +kernel
theorem term_1 (t : Nat) : decide (termV t = .str "covered") = decide (t = 1) := by
  unfold termV
  split
  · rename_i h; subst h; decide +kernel
  · split
    · rename_i h; subst h; decide +kernel
    · rename_i h
      rw [decide_eq_false h]
      decide +kernel
theorem mem_term {j : Nat} {x : V} (h : ([.str "busy", .str "covered", .str "clash"] : List V)[j]? = some x) : x = termV j ∧ j < 3 := by
  match j, h with
  | 0, h => exact ⟨(Option.some.inj h).symm, by decide⟩
  | 1, h => exact ⟨(Option.some.inj h).symm, by decide⟩
  | 2, h => exact ⟨(Option.some.inj h).symm, by decide⟩
theorem srt_len {ps : List Pr} : (srt ps).length = ps.length := (srt_perm ps).length_eq
theorem mxE (m n : Int) : (if n > m then n else m) = mx m n := rfl
theorem mnE (m n : Int) : (if n < m then n else m) = mn m n := rfl
/-! ### an Answer -/
/-- the tuple of the module that holds the words -/
structure WordsT (K : PySem.W.Frag) (mg : Str → Option Value) (x : Str) (xs : List V) : Prop where
  ex : ∃ A : Addr, mg x = some (.ref A) ∧ ∀ H, SqT K H A xs
theorem pe_words' {X : Cx} {x : Str} {xs : List V} {pos : Pos} (h : WordsT X.K X.mg x xs) (hg : Gl X x) (hd : (x == ("__debug__" : Str)) = false := by decide) : PE X (.Name x pos) (fun _ H Q => ∀ A, SqT X.K H A xs → Q (.ref A) H) := by
  obtain ⟨A, hm, hs⟩ := h.ex
  have q := pe_glob (v := .ref A) (pos := pos) hg hm rfl hd
  exact ⟨fun pins s σ H R I z => q.run pins s σ H R I (z A (hs H))⟩
/-- a def with keyword-only defaults alone -/
theorem okDK {P : Program} {w : World} {K : PySem.W.Frag} {mg : Str → Option Value} {bh : Heap} {x qu : Str} {st : Stmt} {kws : List (Str × V)} {f : Addr} {fd : FuncData} {N ps : List Str} {k : Nat} {sp : Sp}
    (F : FunD K x qu (defArgs st) (defBody st) (defScope st) [] kws f fd) (S : FnScope N ps (defScope st)) (ln : ∀ vs H Q E, sp vs H Q E → vs.length = ps.length)
    (hb : ∀ (cv : Value) (B : Around) (ou : List Env) (t : Shared) (J : Hp) (ws : List V) (R : VK) (U : XK), Room k (B.deeper (envOfC qu (defScope st) t.heap.objs.size f cv)) → sp ws J R U →
      ∃ tr, PSs (cxOf CX0 P w K mg bh N qu (defScope st) f cv B ou t J U).nox (defBody st) tr ∧ tr { nx := fun _ J' => R .non J', rt := R } (L2.start N ws) J) :
    FnOk P w K mg bh CX0 (k + 1) f fd ps sp := F.ok S ln fun cv B ou t J ws R U rm h => by
  obtain ⟨tr, q, z⟩ := hb cv B ou t J ws R U rm h
  exact ⟨tr, q.nox, z⟩
/-- a method, a property, a class ready to be used -/
structure RdyMt (P : Program) (w : World) (K : PySem.W.Frag) (mg : Str → Option Value) (bh : Heap) (C : Addr) (m : Str) (k : Nat) (ps : List Str) (dvs : List V) (sp : Sp) (f : Addr) (fd : FuncData) : Prop where
  ok : FnOk P w K mg bh CX0 k f fd ps sp
  mt : Meth K C m f
  bd : Binds K fd ps []
  bd1 : ∃ ds, Vals dvs ds ∧ Binds K fd ps ds
structure RdyPr (P : Program) (w : World) (K : PySem.W.Frag) (mg : Str → Option Value) (bh : Heap) (C : Addr) (m : Str) (k : Nat) (sp : Sp) (p f : Addr) (fd : FuncData) : Prop where
  ok : FnOk P w K mg bh CX0 k f fd ["self"] sp
  pr : PropOf K C m p f
  bd : Binds K fd ["self"] []
structure RdyMk (P : Program) (w : World) (K : PySem.W.Frag) (mg : Str → Option Value) (bh : Heap) (x : Str) (C : Addr) (k : Nat) (ps : List Str) (dvs : List V) (sp : Sp) (f : Addr) (fd : FuncData) : Prop where
  ok : FnOk P w K mg bh CX0 k f fd ps sp
  mkr : Mk K C f
  gl : mg x = some (.ref C)
  bd1 : ∃ ds, Vals dvs ds ∧ Binds K fd ps ds
  kb : ∃ g, KBn K fd ps 2 ["ends"] g (fun vs zs => vs ++ zs)
structure AnsC (K : PySem.W.Frag) (C : Addr) : Prop where
  cl : Cls K C
  nW : NoAttr K C "what"
  nE : NoAttr K C "ends"
def ansFs (t : Nat) (z : Bool) : List (Str × V) := [(("what" : Str), termV t), (("ends" : Str), endsV z)]
def IsAns (H : Hp) (a C : Addr) (t : Nat) (z : Bool) : Prop := ∃ dx : Addr, H a = some (.ins C dx (ansFs t z))
theorem IsAns.same {H H' : Hp} {a C : Addr} {t : Nat} {z : Bool} (h : IsAns H a C t z) (s : Same H H') : IsAns H' a C t z := by
  obtain ⟨dx, h1⟩ := h
  exact ⟨dx, s _ _ h1⟩
theorem ans_what (t : Nat) (z : Bool) : List.lookup ("what" : Str) (ansFs t z) = some (termV t) := by simp [ansFs, List.lookup]
theorem ans_ends (t : Nat) (z : Bool) : List.lookup ("ends" : Str) (ansFs t z) = some (endsV z) := by
  have : (("ends" : Str) == ("what" : Str)) = false := by decide +kernel
  simp [ansFs, List.lookup, this]
theorem ans_no {f : Str} (t : Nat) (z : Bool) (h1 : (f == ("what" : Str)) = false) (h2 : (f == ("ends" : Str)) = false) : List.lookup f (ansFs t z) = none := by simp [ansFs, List.lookup, h1, h2]
theorem ans_put (t : Nat) (z : Bool) : putF "ends" (endsV z) (putF "what" (termV t) []) = ansFs t z := by
  have : ¬ (("what" : Str) = ("ends" : Str)) := by decide +kernel
  simp [putF, ansFs, this]
theorem Pd.rev {H : Hp} : ∀ {ts : List Addr} {ps : List Pr}, Pd H ts ps → Pd H ts.reverse ps.reverse
  | [], [], _ => trivial
  | t :: ts, r :: ps, h => by
    rw [List.reverse_cons, List.reverse_cons]
    exact (Pd.rev h.2).app ⟨h.1, trivial⟩
  | [], _ :: _, h => h.elim
  | _ :: _, [], h => h.elim
end Spk
namespace Spk
open PySem PySem.Spec PyProof.Rows L2
theorem cut_int {ns : List Int} {lo hi : Option Int} {i : Nat} {x : V} (h : (cutV (ns.map V.int) lo hi)[i]? = some x) : ∃ n, x = .int n := by
  have := List.mem_of_getElem? h
  unfold cutV at this
  have := List.mem_of_mem_drop (List.mem_of_mem_take this)
  obtain ⟨n, _, e⟩ := List.mem_map.mp this
  exact ⟨n, e.symm⟩
theorem cut_len {xs : List V} {lo hi : Option Int} : (cutV xs lo hi).length ≤ xs.length := cutV_length xs lo hi
end Spk
namespace Spk
open PySem PySem.Spec PyProof.Rows L2
/-- o.f, the written part named (within a comprehension) -/
theorem pe_fldK {X : Cx} {K : PySem.W.Frag} {e : Expr} {ta : TE} {f : Str} {pos : Pos} (ho : PE X e ta) (hb : attributeBase e f X.env (eval e X.env) = eval e X.env := by rfl) (h : X.K = K := by rfl) : PE X (.Attribute e f pos) (tFld K ta f) := h ▸ pe_fld ho hb
end Spk

namespace Spk
open PySem PySem.Spec PyProof.Rows L2
/-- but for what stands at p and q all that was tracked is as it was -/
def Ks (p q : Addr) (H H' : Hp) : Prop := ∀ b o, b ≠ p → b ≠ q → H b = some o → H' b = some o
theorem Ks.refl {p q : Addr} {H : Hp} : Ks p q H H := fun _ _ _ _ h => h
theorem Ks.trans {p q : Addr} {H H1 H2 : Hp} (a : Ks p q H H1) (b : Ks p q H1 H2) : Ks p q H H2 := fun c o n m h => b c o n m (a c o n m h)
theorem Ks.same {p q : Addr} {H H' : Hp} (s : Same H H') : Ks p q H H' := fun c o _ _ h => s c o h
theorem Ks.kp {p q : Addr} {H H' : Hp} (s : Kp p H H') : Ks p q H H' := fun c o n _ h => s c o n h
theorem Ks.kq {p q : Addr} {H H' : Hp} (s : Kp q H H') : Ks p q H H' := fun c o _ n h => s c o n h
end Spk
namespace Spk
open PySem PySem.Spec PyProof.Rows L2
theorem pcS_take {l : List Pr} {p o : Pr} {k : Nat} (h : l[k]? = some o) : (l.take (k + 1)).foldl pcS ([], p) = pcS ((l.take k).foldl pcS ([], p)) o := by
  rw [take_more h, List.foldl_append]; rfl
theorem pcS_len (l : List Pr) (p : Pr) (s : List Pr) : (l.foldl pcS (s, p)).1.length ≤ s.length + l.length := by
  rw [pcS_go]
  have := (pcGo_sub l p).length_le
  simp only [List.length_append]
  omega
theorem pcStep_pos {z : Bool} {f : List Pr} {p : Pr} (h : (z || decide (p.1 < p.2)) = true) : pcStep z f p = srt ((f.foldl pcS ([], p)).1 ++ [(f.foldl pcS ([], p)).2]) := by
  unfold pcStep
  rw [if_pos h, pcS_go]
  rfl
theorem pcStep_neg {z : Bool} {f : List Pr} {p : Pr} (h : ¬ (z || decide (p.1 < p.2)) = true) : pcStep z f p = f := by
  unfold pcStep
  rw [if_neg h]
theorem step_take {z : Bool} {ps : List Pr} {p : Pr} {i : Nat} (h : ps[i]? = some p) : (ps.take (i + 1)).foldl (pcStep z) [] = pcStep z ((ps.take i).foldl (pcStep z) []) p := by
  rw [take_more h, List.foldl_append]; rfl
end Spk
namespace Spk
/-- or, the way of yes told once -/
theorem or_mid {c1 c2 : Bool} {A C : Prop} (h : (c1 || c2) = true → A) (k : c1 = false → (c2 = true → A) → C) : if c1 = true then A else C := by
  cases c1 with
  | true => rw [if_pos rfl]; exact h rfl
  | false => rw [if_neg Bool.false_ne_true]; exact k rfl fun e => h (by rw [e]; rfl)
end Spk
namespace Spk
open PySem PySem.Spec PyProof.Rows L2
/-- one turn of a comprehension of truths over pairs -/
theorem bl_step {f : Pr → Bool} {L : List Pr} {i : Nat} {p : Pr} {H1 H4 : Hp} {D : Addr} (hp : L[i]? = some p) (nD : H1 D = none) (hl : L.length ≤ 2000) (ss : Same H1 H4) (hD : H4 D = some (.lst (((L.take i).map f).map V.bl))) {b : Bool} (e : f p = b) :
    ∃ acc, H4 D = some (.lst acc) ∧ acc.length < sizeLine ∧ Same H1 (upd H4 D (.lst (acc ++ [.bl b]))) ∧ upd H4 D (.lst (acc ++ [.bl b])) D = some (.lst (((L.take (i + 1)).map f).map V.bl)) := by
  have hk : (L.take i).length ≤ L.length := List.length_take_le' ..
  refine ⟨_, hD, ?_, fun c o hb => ?_, ?_⟩
  · rw [List.length_map, List.length_map]
    have : (2000 : Nat) < sizeLine := by decide
    omega
  · rw [upd_ne (ne_of_none hb nD)]
    exact ss _ _ hb
  · rw [upd_same, take_more hp, List.map_append, List.map_append, ← e]
    rfl
theorem any_bl {f : Pr → Bool} {L : List Pr} : (L.map f).any id = L.any f := by
  rw [List.any_map]; rfl
end Spk
namespace Spk
open PySem PySem.Spec PyProof.Rows L2
theorem same_kp {p : Addr} {H H1 H2 : Hp} (np : H p = none) (a : Same H H1) (b : Kp p H1 H2) : Same H H2 := fun c o h => b c o (ne_of_none h np) (a c o h)
/-- what was made behind, at L, may be changed -/
theorem kp_ks {p L : Addr} {H H1 H2 : Hp} (k : Kp p H H1) (nL : H1 L = none) (neL : L ≠ p) (b : Ks p L H1 H2) : Kp p H H2 := fun c o n h =>
  b c o n (fun z => by subst z; rw [k _ _ n h] at nL; cases nL) (k c o n h)
theorem ks_new {p L : Addr} {H H1 : Hp} {o : HO} (nL : H L = none) (b : Ks p L (upd H L o) H1) (neL : L ≠ p) : Kp p H H1 := fun c u n h =>
  b c u n (ne_of_none h nL) (by rw [upd_ne (ne_of_none h nL)]; exact h)
theorem take_good {ps : List Pr} {n : Nat} (h : ∀ x ∈ ps, strP x = true) : ∀ x ∈ ps.take n, strP x = true := fun x hx => h x (List.mem_of_mem_take hx)
theorem drop_good {ps : List Pr} {n : Nat} (h : ∀ x ∈ ps, strP x = true) : ∀ x ∈ ps.drop n, strP x = true := fun x hx => h x (List.mem_of_mem_drop hx)
theorem eqv_self (ps : List Pr) : (!PyData.eqv (.list (ps.map prD)) (.list (ps.map prD))) = false := by rw [eqvPs, decide_eq_true rfl]; rfl
end Spk
namespace Spk
open PySem PySem.Spec PyProof.Rows L2
theorem iteFe {c : Bool} {A B : Prop} (h : c = false) (b : B) : if c = true then A else B := by
  rw [h, if_neg Bool.false_ne_true]; exact b
theorem in_bools (d : Bool) : inV (.bl d) [.bl true, .bl false] = true := by cases d <;> decide +kernel
theorem same_make {o dx C : Addr} {H H' : Hp} (no : H o = none) (nd : H dx = none) (k : Kp o (upd (upd H dx (.own o)) o (.ins C dx [])) H') : Same H H' := fun b u e =>
  k b u (ne_of_none e no) (by rw [upd_ne (ne_of_none e no), upd_ne (ne_of_none e nd)]; exact e)
theorem no_wished (t : Nat) (z : Bool) : List.lookup ("wished" : Str) (ansFs t z) = none := ans_no t z (by decide +kernel) (by decide +kernel)
end Spk

/-! the text of spanloops_k33_answers_wished -/
namespace Spk
open PySem PySem.Spec PyProof.Rows L2
def topS (i : Nat) : Stmt := PySem.Challenge.pw_spanloops_k33_answers_wished.main.body.getD i (.Pass ⟨0, 0, 0, 0⟩)
structure Blt (mg : Str → Option Value) : Prop where
  b_abs : mg "abs" = none
  b_any : mg "any" = none
  b_bool : mg "bool" = none
  b_enumerate : mg "enumerate" = none
  b_int : mg "int" = none
  b_isinstance : mg "isinstance" = none
  b_len : mg "len" = none
  b_list : mg "list" = none
  b_max : mg "max" = none
  b_min : mg "min" = none
  b_range : mg "range" = none
  b_sorted : mg "sorted" = none
  b_tuple : mg "tuple" = none
structure Txt (K : PySem.W.Frag) (mg : Str → Option Value) : Prop where
  g_FIRST : ∃ t, mg "FIRST" = some (.int (-10000000000000000000000000000000) t)
  g_LAST : ∃ t, mg "LAST" = some (.int (10000000000000000000000000000000) t)
  g_FAR : ∃ t, mg "FAR" = some (.int (1000000000000000000000000000000) t)
  ends : EndsT K mg
end Spk
namespace Spk
open PySem PySem.Spec PyProof.Rows L2

local macro_rules | `(tactic| walk_at "ne") => `(tactic| first | assumption | exact Ne.symm (by assumption) | exact ne_of_none (by walk_at "hp") (by assumption) | exact Ne.symm (ne_of_none (by walk_at "hp") (by assumption)))
local macro_rules | `(tactic| walk_at "hp") => `(tactic| first | assumption | exact upd_same | (refine Eq.trans (upd_ne ?_) ?_; (focus walk_at "ne"); walk_at "hp"))
local macro_rules | `(tactic| walk_at "fact") => `(tactic| first | rfl | assumption | exact SqL.hp (by walk_at "hp") | exact SqT.hp (by walk_at "hp") | walk_at "hp" | exact Or.inl (SqL.hp (by walk_at "hp")) | exact Or.inr (SqT.hp (by walk_at "hp")) | omega | decide | exact Nat.le_of_ble_eq_true rfl | exact lgDiv (by omega) (by omega) | exact Or.inl ⟨by omega, by omega⟩ | exact Or.inr ⟨by omega, by omega⟩ | exact ⟨by omega, by omega⟩ | exact ⟨by omega, by omega, by omega⟩)
local macro_rules | `(tactic| walk_at "vc1") => `(tactic| first
  | (refine And.intro ?_ ?_; (focus walk_at "fact"))
  | refine iteF ?_
  | refine iteT ?_
  | refine ite2 (fun _ => ?_) (fun _ => ?_)
  | apply Exists.intro
  | (refine Or.inl ?_; apply Exists.intro; refine And.intro rfl ?_)
  | (refine Or.inr ?_; apply Exists.intro; refine And.intro rfl ?_))
local macro_rules | `(tactic| walk_at "vc") => `(tactic| repeat' (walk_at "vc1"))
/-! is_number -/
abbrev s_is_number : Stmt := topS 12
abbrev sc_is_number_N : List Str := ["value"]
theorem sc_is_number : FnScope sc_is_number_N ["value"] (defScope s_is_number) := ⟨rfl, rfl, rfl, by decide +kernel, rfl, by decide +kernel, by decide +kernel⟩
def sp_is_number (K : PySem.W.Frag) : Sp := fun vs H Q _ => ∃ (v : V) (d : PyData), vs = [v] ∧ Dp K H v d ∧ Q (.bl (isNum d)) H
section
variable {P : Program} {w : World} {K : PySem.W.Frag} {mg : Str → Option Value} {bh : Heap}
theorem ok_is_number {f : Addr} {fd : FuncData}  (B : Blt mg) (T : Txt K mg)  (F : Fun K "is_number" "is_number" s_is_number f fd) : FnOk P w K mg bh CX0 1 f fd ["value"] (sp_is_number K) := by
  refine F.ok sc_is_number (fun vs H Q E h => ?_) (fun cdv A outer s H vs Q E hr h => ?_)
  · obtain ⟨v, d, rfl, _⟩ := h
    rfl
  · obtain ⟨v, d, rfl, dp, q⟩ := h
    refine ⟨_, (pss_one (ps_ret (pe_and (pe_callB call_isi (by rfl) B.b_isinstance (by decide +kernel) (pa_cons (pv 0) (pa_cons (pe_bltn (v := .ty "int") (by rfl) B.b_int (by decide +kernel) rfl) pa_nil))) (pe_one (pe_not (pe_callB call_isi (by rfl) B.b_isinstance (by decide +kernel) (pa_cons (pv 0) (pa_cons (pe_bltn (v := .ty "bool") (by rfl) B.b_bool (by decide +kernel) rfl) pa_nil)))))))), ?_⟩
    refine ⟨v, rfl, _, _, _, _, _, rfl, .ty _, dpTy dp, kit_ty (kitInt d), _, rfl, ?_⟩
    refine ite2 (fun c => ?_) (fun c => ?_)
    · refine ⟨v, rfl, _, _, _, _, _, rfl, .ty _, dpTy dp, kit_ty (kitBool d), _, rfl, ?_⟩
      rw [isNum_eq, c] at q
      exact q
    · rw [isNum_eq, Bool.eq_false_iff.mpr c] at q
      exact q
end
/-! is_edge -/
abbrev s_is_edge : Stmt := topS 13
abbrev sc_is_edge_N : List Str := ["value"]
theorem sc_is_edge : FnScope sc_is_edge_N ["value"] (defScope s_is_edge) := ⟨rfl, rfl, rfl, by decide +kernel, rfl, by decide +kernel, by decide +kernel⟩
def sp_is_edge (K : PySem.W.Frag) : Sp := fun vs H Q _ => ∃ (v : V) (d : PyData), vs = [v] ∧ Dp K H v d ∧ ∀ H', Same H H' → Q (.bl (isEdge d)) H'
section
variable {P : Program} {w : World} {K : PySem.W.Frag} {mg : Str → Option Value} {bh : Heap}
theorem ok_is_edge {f : Addr} {fd : FuncData} {f_is_number : Addr} {fd_is_number : FuncData} (B : Blt mg) (T : Txt K mg) (R_is_number : Rdy P w K mg bh "is_number" 1 ["value"] (sp_is_number K) f_is_number fd_is_number) (F : Fun K "is_edge" "is_edge" s_is_edge f fd) : FnOk P w K mg bh CX0 2 f fd ["value"] (sp_is_edge K) := by
  refine F.ok sc_is_edge (fun vs H Q E h => ?_) (fun cdv A outer s H vs Q E hr h => ?_)
  · obtain ⟨v, d, rfl, _⟩ := h
    rfl
  · obtain ⟨v, d, rfl, dp, q⟩ := h
    refine ⟨_, (pss_one (ps_ret (pe_and (pe_rdy R_is_number hr (by decide) (by rfl) (pa_cons (pv 0) pa_nil)) (pe_one (pe_or (pe_chain op_le op_le (pe_un un_neg (pe_globI T.g_FAR (by rfl))) (pv 0) (pe_globI T.g_FAR (by rfl))) (pe_one (pe_cmpR op_in_seq (pv 0) (pe_tup (pa_cons (pe_globI T.g_FIRST (by rfl)) (pa_cons (pe_globI T.g_LAST (by rfl)) pa_nil))) (by rfl)))))))), ?_⟩
    refine ⟨v, rfl, v, d, rfl, dp, _, rfl, ?_⟩
    refine ite2 (fun c => ?_) (fun c => ?_)
    · obtain ⟨i, rfl, rfl⟩ := int_of dp c
      · have fin : ∀ b, isEdge (.int i) = b → ∀ H', Same H H' → Q (.bl b) H' := fun b e => e ▸ q
        refine ⟨_, rfl, _, rfl, _, _, rfl, rfl, _, rfl, ?_⟩
        refine ite2 (fun c1 => ?_) (fun c1 => ?_)
        · refine ⟨_, _, rfl, rfl, _, rfl, ?_⟩
          refine ite2 (fun c2 => ?_) (fun c2 => ?_)
          · refine fin true ?_ H (Same.refl H)
            simp only [decide_eq_true_eq] at c1 c2
            simp [isEdge, edgeI, c1, c2]
          · refine ⟨_, rfl, (by show 2 ≤ sizeLine; decide), fun p hp => ?_⟩
            refine ⟨p, _, rfl, .inr (SqT.hp upd_same), rfl, rfl, ?_⟩
            refine fin _ ?_ _ (Same.new hp)
            simp only [decide_eq_true_eq] at c1 c2
            show edgeI i = inV (.int i) [.int (-10000000000000000000000000000000), .int 10000000000000000000000000000000]
            rw [inV2]
            simp [edgeI, c1, c2]
        · refine ⟨_, rfl, iteF ⟨_, rfl, (by show 2 ≤ sizeLine; decide), fun p hp => ?_⟩⟩
          refine ⟨p, _, rfl, .inr (SqT.hp upd_same), rfl, rfl, ?_⟩
          refine fin _ ?_ _ (Same.new hp)
          simp only [decide_eq_true_eq] at c1
          show edgeI i = inV (.int i) [.int (-10000000000000000000000000000000), .int 10000000000000000000000000000000]
          rw [inV2]
          simp [edgeI, c1]
    · rw [isEdge_not c] at q
      exact q H (Same.refl H)
end
/-! is_pair -/
abbrev s_is_pair : Stmt := topS 14
abbrev sc_is_pair_N : List Str := ["value"]
theorem sc_is_pair : FnScope sc_is_pair_N ["value"] (defScope s_is_pair) := ⟨rfl, rfl, rfl, by decide +kernel, rfl, by decide +kernel, by decide +kernel⟩
def sp_is_pair (K : PySem.W.Frag) : Sp := fun vs H Q _ => ∃ (v : V) (d : PyData), vs = [v] ∧ Dp K H v d ∧ ∀ H', Same H H' → Q (.bl (isPair d)) H'
section
variable {P : Program} {w : World} {K : PySem.W.Frag} {mg : Str → Option Value} {bh : Heap}
theorem ok_is_pair {f : Addr} {fd : FuncData} {f_is_edge : Addr} {fd_is_edge : FuncData} (B : Blt mg) (T : Txt K mg) (R_is_edge : Rdy P w K mg bh "is_edge" 2 ["value"] (sp_is_edge K) f_is_edge fd_is_edge) (F : Fun K "is_pair" "is_pair" s_is_pair f fd) : FnOk P w K mg bh CX0 3 f fd ["value"] (sp_is_pair K) := by
  refine F.ok sc_is_pair (fun vs H Q E h => ?_) (fun cdv A outer s H vs Q E hr h => ?_)
  · obtain ⟨v, d, rfl, _⟩ := h
    rfl
  · obtain ⟨v, d, rfl, dp, q⟩ := h
    refine ⟨_, (pss_one (ps_ret (pe_and (pe_callB call_isi (by rfl) B.b_isinstance (by decide +kernel) (pa_cons (pv 0) (pa_cons (pe_bltn (v := .ty "tuple") (by rfl) B.b_tuple (by decide +kernel) rfl) pa_nil))) (pe_and (pe_cmpR op_eq (pe_callB call_len_seq (by rfl) B.b_len (by decide +kernel) (pa_cons (pv 0) pa_nil)) pe_int (nomark _)) (pe_and (pe_rdy R_is_edge hr (by decide) (by rfl) (pa_cons (pe_ix ix_tup (pv 0) pe_int (fun _ _ => rfl)) pa_nil)) (pe_one (pe_rdy R_is_edge hr (by decide) (by rfl) (pa_cons (pe_ix ix_tup (pv 0) pe_int (fun _ _ => rfl)) pa_nil)))))))), ?_⟩
    refine ⟨v, rfl, _, _, _, _, _, rfl, .ty _, dpTy dp, kit_ty (kitTup d), _, rfl, ?_⟩
    refine ite2 (fun c => ?_) (fun c => ?_)
    · obtain ⟨a, xs, ds, rfl, rfl, sq, da⟩ := tup_of dp c
      refine ⟨_, rfl, a, xs, rfl, .inr sq, rfl, _, rfl, ?_⟩
      refine ite2 (fun c1 => ?_) (fun c1 => ?_)
      · have l2 : (xs.length : Int) = 2 := V.int.inj (of_decide_eq_true c1)
        obtain ⟨x, y, d1, d2, rfl, rfl, h1, h2⟩ := dpAll2 da (by omega)
        refine ⟨_, rfl, a, _, 0, x, rfl, rfl, sq, rfl, x, d1, rfl, h1, fun H1 s1 => ?_⟩
        refine ⟨_, rfl, ?_⟩
        refine ite2 (fun c2 => ?_) (fun c2 => ?_)
        · refine ⟨_, rfl, a, _, 1, y, rfl, rfl, sameT s1 sq, rfl, y, d2, rfl, sameD s1 d2 h2, fun H2 s2 => ?_⟩
          have z := q H2 (s1.trans s2)
          have e : isPair (.tuple [d1, d2]) = isEdge d2 := by show (isEdge d1 && isEdge d2) = _; rw [c2, Bool.true_and]
          rw [e] at z
          exact z
        · have z := q H1 s1
          have e : isPair (.tuple [d1, d2]) = false := by show (isEdge d1 && isEdge d2) = _; rw [Bool.eq_false_iff.mpr c2, Bool.false_and]
          rw [e] at z
          exact z
      · have ne : ds.length ≠ 2 := fun z => c1 (decide_eq_true (by rw [dpAll_len da, z]; rfl))
        rw [isPair_len ne] at q
        exact q H (Same.refl H)
    · rw [isPair_not c] at q
      exact q H (Same.refl H)
end
/-! is_stretch -/
abbrev s_is_stretch : Stmt := topS 15
abbrev sc_is_stretch_N : List Str := ["value"]
theorem sc_is_stretch : FnScope sc_is_stretch_N ["value"] (defScope s_is_stretch) := ⟨rfl, rfl, rfl, by decide +kernel, rfl, by decide +kernel, by decide +kernel⟩
def sp_is_stretch (K : PySem.W.Frag) : Sp := fun vs H Q _ => ∃ (v : V) (d : PyData), vs = [v] ∧ Dp K H v d ∧ ∀ H', Same H H' → Q (.bl (isStr d)) H'
section
variable {P : Program} {w : World} {K : PySem.W.Frag} {mg : Str → Option Value} {bh : Heap}
theorem ok_is_stretch {f : Addr} {fd : FuncData} {f_is_pair : Addr} {fd_is_pair : FuncData} (B : Blt mg) (T : Txt K mg) (R_is_pair : Rdy P w K mg bh "is_pair" 3 ["value"] (sp_is_pair K) f_is_pair fd_is_pair) (F : Fun K "is_stretch" "is_stretch" s_is_stretch f fd) : FnOk P w K mg bh CX0 4 f fd ["value"] (sp_is_stretch K) := by
  refine F.ok sc_is_stretch (fun vs H Q E h => ?_) (fun cdv A outer s H vs Q E hr h => ?_)
  · obtain ⟨v, d, rfl, _⟩ := h
    rfl
  · obtain ⟨v, d, rfl, dp, q⟩ := h
    refine ⟨_, (pss_one (ps_ret (pe_and (pe_rdy R_is_pair hr (by decide) (by rfl) (pa_cons (pv 0) pa_nil)) (pe_and (pe_cmpR op_le (pe_ix ix_tup (pv 0) pe_int (fun _ _ => rfl)) (pe_ix ix_tup (pv 0) pe_int (fun _ _ => rfl)) (nomark _)) (pe_and (pe_cmpR op_lt (pe_ix ix_tup (pv 0) pe_int (fun _ _ => rfl)) (pe_globI T.g_LAST (by rfl)) (nomark _)) (pe_one (pe_cmpR op_gt (pe_ix ix_tup (pv 0) pe_int (fun _ _ => rfl)) (pe_globI T.g_FIRST (by rfl)) (nomark _)))))))), ?_⟩
    refine ⟨v, rfl, v, d, rfl, dp, fun H1 s1 => ?_⟩
    refine ⟨_, rfl, ?_⟩
    refine ite2 (fun c => ?_) (fun c => ?_)
    · obtain ⟨a, b, rfl, ea, eb⟩ := pair_of c
      obtain ⟨p, rfl, sq⟩ := dpPr (sameD s1 _ dp)
      have fin : ∀ z, strP (a, b) = z → Q (.bl z) H1 := fun z e => e ▸ q H1 s1
      refine ⟨_, rfl, p, _, 0, _, rfl, rfl, sq, rfl, _, rfl, p, _, 1, _, rfl, rfl, sq, rfl, _, _, rfl, rfl, _, rfl, ?_⟩
      refine ite2 (fun c1 => ?_) (fun c1 => ?_)
      · refine ⟨_, rfl, p, _, 0, _, rfl, rfl, sq, rfl, _, _, rfl, rfl, _, rfl, ?_⟩
        refine ite2 (fun c2 => ?_) (fun c2 => ?_)
        · refine ⟨_, rfl, p, _, 1, _, rfl, rfl, sq, rfl, _, _, rfl, rfl, fin _ ?_⟩
          unfold strP; rw [ea, eb, c1, c2]; rfl
        · refine fin _ ?_
          unfold strP; rw [ea, eb, c1, Bool.eq_false_iff.mpr c2]; rfl
      · refine fin _ ?_
        unfold strP; rw [ea, eb, Bool.eq_false_iff.mpr c1]; rfl
    · rw [isStr_not c] at q
      exact q H1 s1
end
/-! is_window -/
abbrev s_is_window : Stmt := topS 16
abbrev sc_is_window_N : List Str := ["value"]
theorem sc_is_window : FnScope sc_is_window_N ["value"] (defScope s_is_window) := ⟨rfl, rfl, rfl, by decide +kernel, rfl, by decide +kernel, by decide +kernel⟩
def sp_is_window (K : PySem.W.Frag) : Sp := fun vs H Q _ => ∃ (t : Addr) (w : Pr), vs = [.ref t] ∧ SqT K H t [.int w.1, .int w.2] ∧ winP w = true ∧ ∀ H', Same H H' → Q (.bl true) H'
section
variable {P : Program} {w : World} {K : PySem.W.Frag} {mg : Str → Option Value} {bh : Heap}
theorem ok_is_window {f : Addr} {fd : FuncData} {f_is_pair : Addr} {fd_is_pair : FuncData} (B : Blt mg) (T : Txt K mg) (R_is_pair : Rdy P w K mg bh "is_pair" 3 ["value"] (sp_is_pair K) f_is_pair fd_is_pair) (F : Fun K "is_window" "is_window" s_is_window f fd) : FnOk P w K mg bh CX0 4 f fd ["value"] (sp_is_window K) := by
  refine F.ok sc_is_window (fun vs H Q E h => ?_) (fun cdv A outer s H vs Q E hr h => ?_)
  · obtain ⟨t, w, rfl, _⟩ := h
    rfl
  · obtain ⟨t, w, rfl, sq, hw, q⟩ := h
    refine ⟨_, (pss_one (ps_ret (pe_and (pe_rdy R_is_pair hr (by decide) (by rfl) (pa_cons (pv 0) pa_nil)) (pe_one (pe_cmpR op_lt (pe_ix ix_tup (pv 0) pe_int (fun _ _ => rfl)) (pe_ix ix_tup (pv 0) pe_int (fun _ _ => rfl)) (nomark _)))))), ?_⟩
    refine ⟨_, rfl, .ref t, prD w, rfl, .tup sq (.cons (.int _) (.cons (.int _) .nil)), fun H1 s1 => ?_⟩
    rw [winP_pair hw]
    refine ⟨_, rfl, iteT ?_⟩
    refine ⟨_, rfl, t, _, 0, _, rfl, rfl, sameT s1 sq, rfl, _, rfl, t, _, 1, _, rfl, rfl, sameT s1 sq, rfl, _, _, rfl, rfl, ?_⟩
    have e := q _ s1
    rw [← decide_eq_true (winP_lt hw)] at e
    exact e
end
/-! check_ends -/
abbrev s_check_ends : Stmt := topS 17
abbrev sc_check_ends_N : List Str := ["ends"]
theorem sc_check_ends : FnScope sc_check_ends_N ["ends"] (defScope s_check_ends) := ⟨rfl, rfl, rfl, by decide +kernel, rfl, by decide +kernel, by decide +kernel⟩
def sp_check_ends (K : PySem.W.Frag) : Sp := fun vs H Q _ => ∃ z : Bool, vs = [endsV z] ∧ ∀ H', Same H H' → Q .non H'
section
variable {P : Program} {w : World} {K : PySem.W.Frag} {mg : Str → Option Value} {bh : Heap}
theorem ok_check_ends {f : Addr} {fd : FuncData}  (B : Blt mg) (T : Txt K mg)  (F : Fun K "check_ends" "check_ends" s_check_ends f fd) : FnOk P w K mg bh CX0 1 f fd ["ends"] (sp_check_ends K) := by
  refine F.ok sc_check_ends (fun vs H Q E h => ?_) (fun cdv A outer s H vs Q E hr h => ?_)
  · obtain ⟨z, rfl, _⟩ := h
    rfl
  · obtain ⟨z, rfl, q⟩ := h
    refine ⟨_, (pss_one (ps_if (pt_cmpR op_notIn_seq (pv 0) (pe_tup (pa_cons (pe_half T.ends (by rfl)) (pa_cons (pe_shut T.ends (by rfl)) pa_nil))) (by rfl))
      (pss_one ps_never)
      pss_nil)), ?_⟩
    refine ⟨_, rfl, (by show 2 ≤ sizeLine; decide), fun p hp => ?_⟩
    refine ⟨p, _, rfl, .inr (SqT.hp upd_same), (by cases z <;> rfl), rfl, _, rfl, ?_⟩
    have e : (if true = true then !inV (endsV z) [.str "half", .str "shut"] else inV (endsV z) [.str "half", .str "shut"]) = false := by cases z <;> decide +kernel
    rw [e]
    exact iteF (q _ (Same.new hp))
end
/-! check_stretches -/
abbrev s_check_stretches : Stmt := topS 18
abbrev sc_check_stretches_N : List Str := ["spans", "index", "span"]
theorem sc_check_stretches : FnScope sc_check_stretches_N ["spans"] (defScope s_check_stretches) := ⟨rfl, rfl, rfl, by decide +kernel, rfl, by decide +kernel, by decide +kernel⟩
def sp_check_stretches (K : PySem.W.Frag) : Sp := fun vs H Q _ => ∃ (a : Addr) (xs : List V) (ds : List PyData), vs = [.ref a] ∧ Sq K H a xs ∧ DpAll K H xs ds ∧ (∀ d ∈ ds, isStr d = true) ∧ ∀ H', Same H H' → Q .non H'
section
variable {P : Program} {w : World} {K : PySem.W.Frag} {mg : Str → Option Value} {bh : Heap}
theorem ok_check_stretches {f : Addr} {fd : FuncData} {f_is_stretch : Addr} {fd_is_stretch : FuncData} (B : Blt mg) (T : Txt K mg) (R_is_stretch : Rdy P w K mg bh "is_stretch" 4 ["value"] (sp_is_stretch K) f_is_stretch fd_is_stretch) (F : Fun K "check_stretches" "check_stretches" s_check_stretches f fd) : FnOk P w K mg bh CX0 5 f fd ["spans"] (sp_check_stretches K) := by
  refine F.ok sc_check_stretches (fun vs H Q E h => ?_) (fun cdv A outer s H vs Q E hr h => ?_)
  · obtain ⟨a, xs, ds, rfl, _⟩ := h
    rfl
  · obtain ⟨a, xs, ds, rfl, sq, da, hd, q⟩ := h
    refine ⟨_, (pss_one (ps_for PassesOwn.never rfl (pi_en (by rfl) B.b_enumerate (pa_cons (pv 0) pa_nil)) (pg_tup (by rfl) (pgs_cons (pg_name (i := 1) sc_check_stretches.nd rfl (Or.inl rfl)) (pgs_cons (pg_name (i := 2) sc_check_stretches.nd rfl (Or.inl rfl)) pgs_nil)))
      (pss_one (ps_if (pt_not (pt_val (pe_rdy R_is_stretch hr (by decide) (by rfl) (pa_cons (pv 2) pa_nil))))
      (pss_one ps_never)
      pss_nil)))), ?_⟩
    refine ⟨_, rfl, a, xs, rfl, sq, fun J wk => ?_⟩
    refine for_it wk (fun i σ H' => (∃ y z, σ = [some (.ref a), y, z]) ∧ Same H H') ⟨⟨none, none, rfl⟩, Same.refl H⟩ (fun i σ H' _ h => sameK h.2) ?_ ?_
    · rintro i x σ H1 H2 hi ⟨⟨y, z, rfl⟩, s1⟩ ⟨T, x1, x2, rfl, hT, rfl, e1, e2⟩
      obtain ⟨d, hm, dp⟩ := dpAll_get da e2
      have s2 : Same H (upd H1 T (.tup [x1, x2])) := s1.trans (Same.new hT)
      refine ⟨T, _, rfl, SqT.hp upd_same, rfl, x1, _, rfl, x2, _, rfl, rfl, ?_⟩
      refine ⟨x2, rfl, x2, d, rfl, sameD s2 d dp, fun H3 s3 => ⟨_, rfl, ?_⟩⟩
      rw [hd d hm]
      exact iteF ⟨⟨_, _, rfl⟩, s2.trans s3⟩
    · rintro σ H' ⟨⟨y, z, rfl⟩, s1⟩
      exact q H' s1
end
/-! is_empty -/
abbrev s_is_empty : Stmt := topS 19
abbrev sc_is_empty_N : List Str := ["pair", "ends", "begin", "end"]
theorem sc_is_empty : FnScope sc_is_empty_N ["pair", "ends"] (defScope s_is_empty) := ⟨rfl, rfl, rfl, by decide +kernel, rfl, by decide +kernel, by decide +kernel⟩
def sp_is_empty (K : PySem.W.Frag) : Sp := fun vs H Q _ => ∃ (t : Addr) (b e : Int) (z : Bool), vs = [.ref t, endsV z] ∧ SqT K H t [.int b, .int e] ∧ ∀ H', Same H H' → Q (.bl (emp z (b, e))) H'
section
variable {P : Program} {w : World} {K : PySem.W.Frag} {mg : Str → Option Value} {bh : Heap}
theorem ok_is_empty {f : Addr} {fd : FuncData} {f_check_ends : Addr} {fd_check_ends : FuncData} (B : Blt mg) (T : Txt K mg) (R_check_ends : Rdy P w K mg bh "check_ends" 1 ["ends"] (sp_check_ends K) f_check_ends fd_check_ends) (F : FunD K "is_empty" "is_empty" (defArgs s_is_empty) (defBody s_is_empty) (defScope s_is_empty) [.str "half"] [] f fd) : FnOk P w K mg bh CX0 2 f fd ["pair", "ends"] (sp_is_empty K) := by
  refine okD F sc_is_empty (fun vs H Q E h => ?_) (fun cdv A outer s H vs Q E hr h => ?_)
  · obtain ⟨t, b, e, z, rfl, _⟩ := h
    rfl
  · obtain ⟨t, b, e, z, rfl, sq, q⟩ := h
    refine ⟨_, (pss_cons (ps_expr (pe_rdy R_check_ends hr (by decide) (by rfl) (pa_cons (pv 1) pa_nil)))
      (pss_cons (ps_asg (pv 0) (pg_tup (by rfl) (pgs_cons (pg_name (i := 2) sc_is_empty.nd rfl (Or.inl rfl)) (pgs_cons (pg_name (i := 3) sc_is_empty.nd rfl (Or.inl rfl)) pgs_nil))))
      (pss_cons (ps_if (pt_cmpR op_eq (pv 1) (pe_shut T.ends (by rfl)) (nomark _))
      (pss_one (ps_ret (pe_cmpR op_gt (pv 2) (pv 3) (nomark _))))
      pss_nil)
      (pss_one (ps_ret (pe_cmpR op_ge (pv 2) (pv 3) (nomark _))))))), ?_⟩
    refine ⟨_, rfl, z, rfl, fun H1 s1 => ?_⟩
    refine ⟨_, rfl, t, _, rfl, sameT s1 sq, rfl, _, _, rfl, _, _, rfl, rfl, ?_⟩
    refine ⟨_, rfl, endsV_scal z, _, rfl, ?_⟩
    rw [endsV_shut]
    have z1 := q H1 s1
    cases z with
    | true => exact iteT ⟨_, rfl, _, rfl, _, _, rfl, rfl, z1⟩
    | false => exact iteF ⟨_, rfl, _, rfl, _, _, rfl, rfl, z1⟩
end
/-! join_sorted -/
abbrev s_join_sorted : Stmt := topS 20
abbrev sc_join_sorted_N : List Str := ["spans", "rows", "low", "high", "begin", "end"]
theorem sc_join_sorted : FnScope sc_join_sorted_N ["spans"] (defScope s_join_sorted) := ⟨rfl, rfl, rfl, by decide +kernel, rfl, by decide +kernel, by decide +kernel⟩
def sp_join_sorted (K : PySem.W.Frag) : Sp := fun vs H Q _ => ∃ (a : Addr) (ts : List Addr) (ps : List Pr), vs = [.ref a] ∧ SqL K H a (ts.map V.ref) ∧ Pd H ts ps ∧ ps.length ≤ 1000 ∧ ∀ r us H', H r = none → H' r = some (.lst (us.map V.ref)) → Pd H' us (joinM ps) → Same H H' → Q (.ref r) H'
section
variable {P : Program} {w : World} {K : PySem.W.Frag} {mg : Str → Option Value} {bh : Heap}
theorem ok_join_sorted {f : Addr} {fd : FuncData}  (B : Blt mg) (T : Txt K mg)  (F : Fun K "join_sorted" "join_sorted" s_join_sorted f fd) : FnOk P w K mg bh CX0 1 f fd ["spans"] (sp_join_sorted K) := by
  refine F.ok sc_join_sorted (fun vs H Q E h => ?_) (fun cdv A outer s H vs Q E hr h => ?_)
  · obtain ⟨a, ts, ps, rfl, _⟩ := h
    rfl
  · obtain ⟨a, ts, ps, rfl, sq, pd, hlen, q⟩ := h
    refine ⟨_, (pss_cons (ps_if (pt_not (pt_truth (pv 0) (by intro _; rfl)))
      (pss_one (ps_ret (pe_lst pa_nil)))
      pss_nil)
      (pss_cons (ps_set (i := 1) sc_join_sorted.nd rfl (Or.inl rfl) (pe_lst pa_nil))
      (pss_cons (ps_asg (pe_ix ix_list (pv 0) pe_int (fun _ _ => rfl)) (pg_tup (by rfl) (pgs_cons (pg_name (i := 2) sc_join_sorted.nd rfl (Or.inl rfl)) (pgs_cons (pg_name (i := 3) sc_join_sorted.nd rfl (Or.inl rfl)) pgs_nil))))
      (pss_cons (ps_for PassesOwn.never rfl (pi_list (pv 0)) (pg_tup (by rfl) (pgs_cons (pg_name (i := 4) sc_join_sorted.nd rfl (Or.inl rfl)) (pgs_cons (pg_name (i := 5) sc_join_sorted.nd rfl (Or.inl rfl)) pgs_nil)))
      (pss_one (ps_if (pt_cmpR op_gt (pv 4) (pv 3) (nomark _))
      (pss_cons (ps_expr (pe_bm PySem.F.plainAttrs_list PySem.F.slot_list_append PySem.F.type_list_append mt_append (pv 1) (pa_cons (pe_tup (pa_cons (pv 2) (pa_cons (pv 3) pa_nil))) pa_nil)))
      (pss_one (ps_par (i := 2) (j := 3) (by rfl) sc_join_sorted.nd rfl rfl (by decide) rfl rfl (pa_cons (pv 4) (pa_cons (pv 5) pa_nil)) (by rfl))))
      (pss_one (ps_set (i := 3) sc_join_sorted.nd rfl (Or.inl rfl) (pe_callB (call_max2 rfl) (by rfl) B.b_max (by decide +kernel) (pa_cons (pv 3) (pa_cons (pv 5) pa_nil))))))))
      (pss_cons (ps_expr (pe_bm PySem.F.plainAttrs_list PySem.F.slot_list_append PySem.F.type_list_append mt_append (pv 1) (pa_cons (pe_tup (pa_cons (pv 2) (pa_cons (pv 3) pa_nil))) pa_nil)))
      (pss_one (ps_ret (pv 1)))))))), ?_⟩
    refine ⟨_, rfl, _, .inl ⟨_, sq, rfl⟩, ?_⟩
    cases ts with
    | nil =>
      cases ps with
      | cons _ _ => exact pd.elim
      | nil =>
        refine iteT ⟨Nat.zero_le _, fun r hr' => ?_⟩
        exact q r [] _ hr' upd_same trivial (Same.new hr')
    | cons t0 ts =>
      cases ps with
      | nil => exact pd.elim
      | cons p0 ps =>
        refine iteF ⟨Nat.zero_le _, fun r nr => ?_⟩
        have sr : Same H (upd H r (.lst [])) := Same.new nr
        refine ⟨_, rfl, a, _, 0, _, rfl, rfl, sr.seq sq, atI_nat (j := 0) rfl, t0, _, rfl, SqT.hp (sr _ _ pd.1), rfl, _, _, rfl, _, _, rfl, rfl, ?_⟩
        refine ⟨_, rfl, a, rfl, ⟨_, sr.seq sq⟩, ?_⟩
        refine for_list (K := K) (a := a) (xs := (t0 :: ts).map V.ref) (fun i σ H' => ∃ y4 y5 us, σ = [some (.ref a), some (.ref r), some (.int (((p0 :: ps).take i).foldl stepJ ([], p0)).2.1), some (.int (((p0 :: ps).take i).foldl stepJ ([], p0)).2.2), y4, y5] ∧ Same H H' ∧ H' r = some (.lst (us.map V.ref)) ∧ Pd H' us (((p0 :: ps).take i).foldl stepJ ([], p0)).1)
          ⟨none, none, [], rfl, sr, upd_same, trivial⟩ (fun i σ H' _ h => ?_) ?_ ?_
        · obtain ⟨_, _, _, _, s1, _⟩ := h
          exact s1.seq sq
        · rintro i x σ H1 hx ⟨y4, y5, us, rfl, s1, hr1, pu⟩
          obtain ⟨t, ht, rfl⟩ := map_get hx
          obtain ⟨p, hp, et⟩ := Pd.get pd ht
          have e := take_more hp
          have ll := stepJ_len0 ((p0 :: ps).take i) p0
          have li : ((p0 :: ps).take i).length ≤ 1000 := Nat.le_trans (List.length_take_le' ..) hlen
          have lu := pu.len
          generalize hS : ((p0 :: ps).take i).foldl stepJ ([], p0) = S at *
          have e2 : ((p0 :: ps).take (i + 1)).foldl stepJ ([], p0) = stepJ S p := by rw [e, List.foldl_append, hS]; rfl
          refine ⟨t, _, rfl, SqT.hp (s1 _ _ et), rfl, _, _, rfl, _, _, rfl, rfl, ?_⟩
          refine ⟨_, rfl, _, rfl, _, _, rfl, rfl, _, rfl, ?_⟩
          rw [e2]
          refine ite2 (fun c => ?_) (fun c => ?_)
          · have c' : S.2.2 < p.1 := of_decide_eq_true c
            have ej : stepJ S p = (S.1 ++ [S.2], p) := if_pos c'
            rw [ej]
            refine ⟨_, rfl, .inl ⟨rfl, _, SqL.hp hr1⟩, _, rfl, _, rfl, (by show 2 ≤ sizeLine; decide), fun T nT => ?_⟩
            have nrT : r ≠ T := ne_of_none hr1 nT
            refine ⟨r, _, _, rfl, rfl, (upd_ne nrT).trans hr1, ?_, ?_⟩
            · rw [List.length_map]
              exact small1000 (by omega)
            · refine ⟨_, rfl, _, rfl, _, _, rfl, ?_⟩
              refine ⟨_, _, us ++ [T], rfl, ?_, ?_, ?_⟩
              · intro b o hb
                rw [upd_ne (ne_of_none hb nr), upd_ne (ne_of_none (s1 _ _ hb) nT)]
                exact s1 _ _ hb
              · rw [upd_same, List.map_append]; rfl
              · have kp : Kp r H1 (upd (upd H1 T (.tup [.int S.2.1, .int S.2.2])) r (.lst (us.map V.ref ++ [.ref T]))) := (Kp.new nT).trans Kp.at_
                refine Pd.app (Pd.kp kp (fun xs z => by rw [hr1] at z; cases z) pu) ⟨?_, trivial⟩
                rw [upd_ne (Ne.symm nrT), upd_same]
          · have c' : ¬ S.2.2 < p.1 := fun z => c (decide_eq_true z)
            have ej : stepJ S p = (S.1, (S.2.1, if S.2.2 < p.2 then p.2 else S.2.2)) := if_neg c'
            rw [ej]
            exact ⟨_, rfl, _, rfl, _, _, rfl, _, _, us, rfl, s1, hr1, pu⟩
        · rintro σ H1 ⟨y4, y5, us, rfl, s1, hr1, pu⟩
          have ef : (p0 :: ps).take ((t0 :: ts).map V.ref).length = p0 :: ps := List.take_of_length_le (by rw [List.length_map, pd.len]; exact Nat.le_refl _)
          rw [ef] at pu ⊢
          have lu := pu.len
          have ll := stepJ_len0 (p0 :: ps) p0
          have ej : joinM (p0 :: ps) = ((p0 :: ps).foldl stepJ ([], p0)).1 ++ [((p0 :: ps).foldl stepJ ([], p0)).2] := (joinF_eq (p0 :: ps)).symm
          generalize (p0 :: ps).foldl stepJ ([], p0) = S at *
          refine ⟨_, rfl, .inl ⟨rfl, _, SqL.hp hr1⟩, _, rfl, _, rfl, (by show 2 ≤ sizeLine; decide), fun T nT => ?_⟩
          have nrT : r ≠ T := ne_of_none hr1 nT
          refine ⟨r, _, _, rfl, rfl, (upd_ne nrT).trans hr1, ?_, ?_⟩
          · rw [List.length_map]
            exact small1000 (by omega)
          · refine ⟨_, rfl, q r (us ++ [T]) _ nr ?_ ?_ ?_⟩
            · rw [upd_same, List.map_append]; rfl
            · rw [ej]
              have kp : Kp r H1 (upd (upd H1 T (.tup [.int S.2.1, .int S.2.2])) r (.lst (us.map V.ref ++ [.ref T]))) := (Kp.new nT).trans Kp.at_
              refine Pd.app (Pd.kp kp (fun xs z => by rw [hr1] at z; cases z) pu) ⟨?_, trivial⟩
              rw [upd_ne (Ne.symm nrT), upd_same]
            · intro b o hb
              rw [upd_ne (ne_of_none hb nr), upd_ne (ne_of_none (s1 _ _ hb) nT)]
              exact s1 _ _ hb
end
/-! union -/
abbrev s_union : Stmt := topS 21
abbrev sc_union_N : List Str := ["spans", "ends", "span"]
theorem sc_union : FnScope sc_union_N ["spans", "ends"] (defScope s_union) := ⟨rfl, rfl, rfl, by decide +kernel, rfl, by decide +kernel, by decide +kernel⟩
def sp_union (K : PySem.W.Frag) : Sp := fun vs H Q _ => ∃ (a : Addr) (ts : List Addr) (ps : List Pr) (z : Bool), vs = [.ref a, endsV z] ∧ Sq K H a (ts.map V.ref) ∧ Pd H ts ps ∧ (∀ p ∈ ps, strP p = true) ∧ ps.length ≤ 1000 ∧ ∀ r us H', H r = none → H' r = some (.lst (us.map V.ref)) → Pd H' us (unionM z ps) → Same H H' → Q (.ref r) H'
section
variable {P : Program} {w : World} {K : PySem.W.Frag} {mg : Str → Option Value} {bh : Heap}
theorem ok_union {f : Addr} {fd : FuncData} {f_check_stretches : Addr} {fd_check_stretches : FuncData} {f_check_ends : Addr} {fd_check_ends : FuncData} {f_join_sorted : Addr} {fd_join_sorted : FuncData} {f_is_empty : Addr} {fd_is_empty : FuncData} (B : Blt mg) (T : Txt K mg) (R_check_stretches : Rdy P w K mg bh "check_stretches" 5 ["spans"] (sp_check_stretches K) f_check_stretches fd_check_stretches) (R_check_ends : Rdy P w K mg bh "check_ends" 1 ["ends"] (sp_check_ends K) f_check_ends fd_check_ends) (R_join_sorted : Rdy P w K mg bh "join_sorted" 1 ["spans"] (sp_join_sorted K) f_join_sorted fd_join_sorted) (R_is_empty : RdyD P w K mg bh "is_empty" 2 ["pair", "ends"] [.str "half"] (sp_is_empty K) f_is_empty fd_is_empty) (F : FunD K "union" "union" (defArgs s_union) (defBody s_union) (defScope s_union) [.str "half"] [] f fd) : FnOk P w K mg bh CX0 6 f fd ["spans", "ends"] (sp_union K) := by
  refine okD F sc_union (fun vs H Q E h => ?_) (fun cdv A outer s H vs Q E hr h => ?_)
  · obtain ⟨a, ts, ps, z, rfl, _⟩ := h
    rfl
  · obtain ⟨a, ts, ps, z, rfl, sq, pd, hst, hlen, q⟩ := h
    refine ⟨_, (pss_cons (ps_expr (pe_rdy R_check_stretches hr (by decide) (by rfl) (pa_cons (pv 0) pa_nil)))
      (pss_cons (ps_expr (pe_rdy R_check_ends hr (by decide) (by rfl) (pa_cons (pv 1) pa_nil)))
      (pss_one (ps_ret (pe_rdy R_join_sorted hr (by decide) (by rfl) (pa_cons (pe_callB cr_sortedPO (by rfl) B.b_sorted (by decide +kernel) (pa_cons (pe_lc (own := [("span", 2)]) (by rfl) sc_union.nd (pi_sq (pv 0)) (blkOk_by (own := [("span", 2)]) (N := sc_union_N) (sc := defScope s_union) (by decide +kernel)) (fun _ _ _ _ _ => (pg_name (i := 2) sc_union.nd rfl (Or.inl rfl))) (fun _ _ _ _ _ => (pts_one (pt_not (pt_val (pe_rdyD R_is_empty hr (by decide) (by rfl) (pa_cons (pv 2) (pa_cons (pv 1) pa_nil))))))) (fun _ _ _ _ _ => (pv 2))) pa_nil)) pa_nil)))))), ?_⟩
    refine ⟨_, rfl, a, _, _, rfl, sq, pd.dp, ?_, fun H1 s1 => ?_⟩
    · intro d hd
      obtain ⟨p, hp, rfl⟩ := List.mem_map.mp hd
      exact hst p hp
    refine ⟨_, rfl, z, rfl, fun H2 s2 => ?_⟩
    have s12 := s1.trans s2
    refine ⟨_, rfl, a, _, rfl, sameQ s12 sq, fun J wk D nD => ?_⟩
    refine lc_it wk (fun i H' => ∃ us, Same H2 H' ∧ H' D = some (.lst (us.map V.ref)) ∧ Pd H' us ((ps.take i).filter fun p => !emp z p)) ⟨[], Same.new nD, upd_same, trivial⟩ (fun i H' _ h => sameK h.choose_spec.1) ?_ ?_
    · rintro i x H3 H4 hi ⟨us, ss, hD, pu⟩ ⟨rfl, hx⟩
      obtain ⟨t, ht, rfl⟩ := map_get hx
      obtain ⟨p, hp, et⟩ := Pd.get pd ht
      have et3 := (s12.trans ss) _ _ et
      have lu := pu.len
      have lf : ((ps.take i).filter fun p => !emp z p).length ≤ ps.length := Nat.le_trans (List.length_filter_le ..) (List.length_take_le' ..)
      refine ⟨rfl, ?_⟩
      refine ⟨_, rfl, _, rfl, t, p.1, p.2, z, rfl, SqT.hp et3, fun H5 s5 => ⟨_, rfl, ?_⟩⟩
      have et5 := s5 _ _ et3
      rw [take_more hp, List.filter_append]
      refine ite2 (fun c => ?_) (fun c => ?_)
      · have nDt : D ≠ t := ne_of (s5 _ _ hD) et5 (fun z => nomatch z)
        refine ⟨_, rfl, us.map V.ref, s5 _ _ hD, ?_, us ++ [t], ?_, ?_, ?_⟩
        · rw [List.length_map]
          exact small1000 (by omega)
        · intro b o hb
          rw [upd_ne (ne_of_none hb nD)]
          exact s5 _ _ (ss _ _ hb)
        · rw [upd_same, List.map_append]; rfl
        · have kp : Kp D H5 (upd H5 D (.lst (us.map V.ref ++ [.ref t]))) := Kp.at_
          rw [show List.filter (fun p => !emp z p) [p] = [p] from List.filter_cons_of_pos (p := fun p => !emp z p) c]
          refine Pd.app (Pd.kp kp (fun xs z => by rw [s5 _ _ hD] at z; cases z) (pu.same s5)) ⟨?_, trivial⟩
          rw [upd_ne (Ne.symm nDt)]
          exact et5
      · rw [show List.filter (fun p => !emp z p) [p] = [] from List.filter_cons_of_neg (p := fun p => !emp z p) c, List.append_nil]
        exact ⟨us, ss.trans s5, s5 _ _ hD, pu.same s5⟩
    · rintro H3 ⟨us, ss, hD, pu⟩
      rw [List.length_map, pd.len, List.take_length] at pu
      refine ⟨D, _, kOf H3, rfl, SqL.hp hD, pu.all, fun ys m hs hb nm => ?_⟩
      obtain ⟨vs, rfl, pv'⟩ := sorted_refs pu hs hb
      have sm : Same H3 (upd H3 m (.lst (vs.map V.ref))) := Same.new nm
      have s3 := s12.trans ss
      refine ⟨m, vs, _, rfl, SqL.hp upd_same, pv'.same sm, ?_, fun r ws H5 nr hr5 pw s5 => ?_⟩
      · have : (srt (ps.filter fun p => !emp z p)).length ≤ ps.length := by
          rw [(srt_perm _).length_eq]
          exact List.length_filter_le ..
        omega
      · exact q r ws H5 ((s3.trans sm).free nr) hr5 pw ((s3.trans sm).trans s5)
end
/-! touches -/
abbrev s_touches : Stmt := topS 23
abbrev sc_touches_N : List Str := ["span", "window", "ends"]
theorem sc_touches : FnScope sc_touches_N ["span", "window", "ends"] (defScope s_touches) := ⟨rfl, rfl, rfl, by decide +kernel, rfl, by decide +kernel, by decide +kernel⟩
def sp_touches (K : PySem.W.Frag) : Sp := fun vs H Q _ => ∃ (t u : Addr) (p w : Pr) (z : Bool), vs = [.ref t, .ref u, endsV z] ∧ SqT K H t [.int p.1, .int p.2] ∧ SqT K H u [.int w.1, .int w.2] ∧ ∀ H', Same H H' → Q (.bl (meetB z p w)) H'
section
variable {P : Program} {w : World} {K : PySem.W.Frag} {mg : Str → Option Value} {bh : Heap}
theorem ok_touches {f : Addr} {fd : FuncData} {f_is_empty : Addr} {fd_is_empty : FuncData} (B : Blt mg) (T : Txt K mg) (R_is_empty : RdyD P w K mg bh "is_empty" 2 ["pair", "ends"] [.str "half"] (sp_is_empty K) f_is_empty fd_is_empty) (F : Fun K "touches" "touches" s_touches f fd) : FnOk P w K mg bh CX0 3 f fd ["span", "window", "ends"] (sp_touches K) := by
  refine F.ok sc_touches (fun vs H Q E h => ?_) (fun cdv A outer s H vs Q E hr h => ?_)
  · obtain ⟨t, u, p, w, z, rfl, _⟩ := h
    rfl
  · obtain ⟨t, u, p, w, z, rfl, s1, s2, q⟩ := h
    refine ⟨_, (pss_one (ps_ret (pe_not (pe_rdyD R_is_empty hr (by decide) (by rfl) (pa_cons (pe_tup (pa_cons (pe_callB (call_max2 rfl) (by rfl) B.b_max (by decide +kernel) (pa_cons (pe_ix ix_tup (pv 0) pe_int (fun _ _ => rfl)) (pa_cons (pe_ix ix_tup (pv 1) pe_int (fun _ _ => rfl)) pa_nil))) (pa_cons (pe_callB (call_min2 rfl) (by rfl) B.b_min (by decide +kernel) (pa_cons (pe_ix ix_tup (pv 0) pe_int (fun _ _ => rfl)) (pa_cons (pe_ix ix_tup (pv 1) pe_int (fun _ _ => rfl)) pa_nil))) pa_nil))) (pa_cons (pv 2) pa_nil)))))), ?_⟩
    refine ⟨_, rfl, t, _, 0, _, rfl, rfl, s1, rfl, _, rfl, u, _, 0, _, rfl, rfl, s2, rfl, _, _, rfl, _, rfl, t, _, 1, _, rfl, rfl, s1, rfl, _, rfl, u, _, 1, _, rfl, rfl, s2, rfl, _, _, rfl, (by show 2 ≤ sizeLine; decide), fun T nT => ?_⟩
    refine ⟨_, rfl, T, _, _, z, rfl, SqT.hp upd_same, fun H' s' => ?_⟩
    refine ⟨_, rfl, ?_⟩
    have e := q H' ((Same.new nT).trans s')
    rw [meet_emp] at e
    exact e
end
/-! check_window -/
abbrev s_check_window : Stmt := topS 27
abbrev sc_check_window_N : List Str := ["window"]
theorem sc_check_window : FnScope sc_check_window_N ["window"] (defScope s_check_window) := ⟨rfl, rfl, rfl, by decide +kernel, rfl, by decide +kernel, by decide +kernel⟩
def sp_check_window (K : PySem.W.Frag) : Sp := fun vs H Q _ => ∃ v : V, vs = [v] ∧ (v = .non ∨ ∃ (t : Addr) (w : Pr), v = .ref t ∧ SqT K H t [.int w.1, .int w.2] ∧ winP w = true) ∧ ∀ H', Same H H' → Q .non H'
section
variable {P : Program} {w : World} {K : PySem.W.Frag} {mg : Str → Option Value} {bh : Heap}
theorem ok_check_window {f : Addr} {fd : FuncData} {f_is_window : Addr} {fd_is_window : FuncData} (B : Blt mg) (T : Txt K mg) (R_is_window : Rdy P w K mg bh "is_window" 4 ["value"] (sp_is_window K) f_is_window fd_is_window) (F : Fun K "check_window" "check_window" s_check_window f fd) : FnOk P w K mg bh CX0 5 f fd ["window"] (sp_check_window K) := by
  refine F.ok sc_check_window (fun vs H Q E h => ?_) (fun cdv A outer s H vs Q E hr h => ?_)
  · obtain ⟨v, rfl, _⟩ := h
    rfl
  · obtain ⟨v, rfl, hv, q⟩ := h
    refine ⟨_, (pss_one (ps_if (PW.pt (pw_and (pt_cmpR op_notN (pv 0) pe_non (nomark _)) (pw_and1 (pt_not (pt_val (pe_rdy R_is_window hr (by decide) (by rfl) (pa_cons (pv 0) pa_nil)))))))
      (pss_one ps_never)
      pss_nil)), ?_⟩
    rcases hv with rfl | ⟨t, w, rfl, sq, hw⟩
    · exact ⟨_, rfl, rfl, _, rfl, iteF (q _ (Same.refl H))⟩
    · exact ⟨_, rfl, rfl, _, rfl, iteT ⟨_, rfl, t, w, rfl, sq, hw, fun H1 s1 => ⟨_, rfl, iteF (q _ s1)⟩⟩⟩
end
/-! check_word -/
abbrev s_check_word : Stmt := topS 31
abbrev sc_check_word_N : List Str := ["word", "words"]
theorem sc_check_word : FnScope sc_check_word_N ["word", "words"] (defScope s_check_word) := ⟨rfl, rfl, rfl, by decide +kernel, rfl, by decide +kernel, by decide +kernel⟩
def sp_check_word (K : PySem.W.Frag) : Sp := fun vs H Q _ => ∃ (v : V) (a : Addr) (xs : List V), vs = [v, .ref a] ∧ SqT K H a xs ∧ flatV v = true ∧ xs.all flatV = true ∧ inV v xs = true ∧ Q .non H
section
variable {P : Program} {w : World} {K : PySem.W.Frag} {mg : Str → Option Value} {bh : Heap}
theorem ok_check_word {f : Addr} {fd : FuncData}  (B : Blt mg) (T : Txt K mg)  (F : Fun K "check_word" "check_word" s_check_word f fd) : FnOk P w K mg bh CX0 1 f fd ["word", "words"] (sp_check_word K) := by
  refine F.ok sc_check_word (fun vs H Q E h => ?_) (fun cdv A outer s H vs Q E hr h => ?_)
  · obtain ⟨v, a, xs, rfl, _⟩ := h
    rfl
  · obtain ⟨v, a, xs, rfl, sq, f1, f2, f3, q⟩ := h
    refine ⟨_, (pss_one (ps_if (pt_cmpR op_notIn_seq (pv 0) (pv 1) (by rfl))
      (pss_one ps_never)
      pss_nil)), ?_⟩
    refine ⟨_, rfl, _, rfl, a, xs, rfl, .inr sq, f1, f2, _, rfl, ?_⟩
    rw [f3]
    exact iteF q
end
/-! _law_bag -/
abbrev s_l_bag : Stmt := topS 35
abbrev sc_l_bag_N : List Str := ["_law_script", "_law_at", "_law_cell", "_law_mixed", "_law_k", "_law_one"]
theorem sc_l_bag : FnScope sc_l_bag_N ["_law_script", "_law_at"] (defScope s_l_bag) := ⟨rfl, rfl, rfl, by decide +kernel, rfl, by decide +kernel, by decide +kernel⟩
def sp_l_bag (K : PySem.W.Frag) : Sp := fun vs H Q _ => ∃ (a : Addr) (ns : List Int) (i : Int), vs = [.ref a, .int i] ∧ SqL K H a (ns.map V.int) ∧ ns.length ≤ 63 ∧ 0 ≤ i ∧ i ≤ 63 ∧ ∀ p H', H p = none → BagN H' p → Same H H' → Q (.ref p) H'
section
variable {P : Program} {w : World} {K : PySem.W.Frag} {mg : Str → Option Value} {bh : Heap}
theorem ok_l_bag {f : Addr} {fd : FuncData}  (B : Blt mg) (T : Txt K mg)  (F : Fun K "_law_bag" "_law_bag" s_l_bag f fd) : FnOk P w K mg bh CX0 1 f fd ["_law_script", "_law_at"] (sp_l_bag K) := by
  refine F.ok sc_l_bag (fun vs H Q E h => ?_) (fun cdv A outer s H vs Q E hr h => ?_)
  · obtain ⟨a, ns, i, rfl, _⟩ := h
    rfl
  · obtain ⟨a, ns, i, rfl, sq, hn, i0, i63, q⟩ := h
    refine ⟨_, (pss_mid (ps_set (i := 2) sc_l_bag.nd rfl (Or.inl rfl) (pe_ifExp (pt_cmpR op_lt (pv 1) (pe_callB call_len_seq (by rfl) B.b_len (by decide +kernel) (pa_cons (pv 0) pa_nil)) (nomark _)) (pe_ix ix_list (pv 0) (pv 1) (fun _ _ => rfl)) pe_int))
      (pss_cons (ps_set (i := 3) sc_l_bag.nd rfl (Or.inl rfl) (pe_op op_add (pe_op op_mul pe_int (pv 1)) pe_int))
      (pss_cons (ps_for PassesOwn.never rfl (pi_en (by rfl) B.b_enumerate (pa_cons (pe_slice sl_list (pv 0) po_none (po_some pe_int)) pa_nil)) (pg_tup (by rfl) (pgs_cons (pg_name (i := 4) sc_l_bag.nd rfl (Or.inl rfl)) (pgs_cons (pg_name (i := 5) sc_l_bag.nd rfl (Or.inl rfl)) pgs_nil)))
      (pss_one (ps_set (i := 3) sc_l_bag.nd rfl (Or.inl rfl) (pe_op op_mod (pe_callTy call_int1 (by rfl) B.b_int (by decide +kernel) (pa_cons (pe_op op_add (pe_op op_add (pe_op op_add (pe_op op_mul (pv 3) pe_int) (pe_op op_mod (pe_callTy call_int1 (by rfl) B.b_int (by decide +kernel) (pa_cons (pv 5) pa_nil)) pe_int)) (pe_op op_mul pe_int (pv 4))) pe_int) pa_nil)) pe_int))))
      (pss_one (ps_ret (pe_lst (pa_cons (pe_ifExp (pt_cmpR op_ge (pe_callB call_abs (by rfl) B.b_abs (by decide +kernel) (pa_cons (pv 2) pa_nil)) (pe_op op_pow pe_int pe_int) (nomark _)) (pe_callB call_abs (by rfl) B.b_abs (by decide +kernel) (pa_cons (pv 2) pa_nil)) pe_int) (pa_cons (pv 3) pa_nil)))))))), ?_⟩
    refine ⟨fun σ H' => ∃ n : Int, σ = [some (.ref a), some (.int i), some (.int n), none, none, none] ∧ H' = H, ?_, ?_⟩
    · refine ⟨_, rfl, _, rfl, a, _, rfl, .inl sq, _, _, rfl, rfl, _, rfl, ?_⟩
      refine ite2 (fun c => ?_) (fun c => ?_)
      · have ci : i < (ns.map V.int).length := of_decide_eq_true c
        obtain ⟨n, hn⟩ : ∃ n, (ns.map V.int)[i.toNat]? = some (.int n) := by
          rw [List.length_map] at ci
          have : i.toNat < ns.length := by omega
          exact ⟨ns[i.toNat], by rw [List.getElem?_map, List.getElem?_eq_getElem this]; rfl⟩
        exact ⟨_, rfl, _, rfl, a, _, i, .int n, rfl, rfl, sq, at_of (by omega) hn, n, rfl, rfl⟩
      · exact ⟨0, rfl, rfl⟩
    rintro σ H' ⟨n, rfl, rfl⟩
    refine ⟨_, rfl, _, _, rfl, rfl, .inl ⟨by decide, by decide⟩, _, _, rfl, rfl, ?_⟩
    refine ⟨_, rfl, _, rfl, a, _, rfl, sq, fun L nL => ?_⟩
    refine ⟨L, _, rfl, .inl (SqL.hp upd_same), fun J wk => ?_⟩
    have sL : Same H' (upd H' L (.lst (cutV (ns.map V.int) none (some 60)))) := Same.new nL
    refine for_it wk (fun j σ H2 => (∃ m y z, σ = [some (.ref a), some (.int i), some (.int n), some (.int m), y, z] ∧ 0 ≤ m ∧ m < 2147483399) ∧ Same (upd H' L (.lst (cutV (ns.map V.int) none (some 60)))) H2)
      ⟨⟨_, none, none, rfl, by omega, by omega⟩, Same.refl _⟩ (fun j σ H2 _ h => sameK h.2) ?_ ?_
    · rintro j x σ H2 H3 hj ⟨⟨m, y, z, rfl, m0, m1⟩, s1⟩ ⟨T, x1, x2, rfl, hT, rfl, e1, e2⟩
      obtain rfl := Option.some.inj e1
      obtain ⟨o, rfl⟩ := cut_int e2
      have hj63 : (j : Int) ≤ 63 := by have := cut_len (xs := ns.map V.int) (lo := none) (hi := some 60); rw [List.length_map] at this; omega
      have s2 := s1.trans (Same.new (o := .tup [.int (j : Nat), .int o]) hT)
      refine ⟨T, _, rfl, SqT.hp upd_same, rfl, _, _, rfl, _, _, rfl, rfl, ?_⟩
      walk_at "vc"
      exact ⟨⟨_, _, _, rfl, Int.emod_nonneg _ (by decide), Int.emod_lt_of_pos _ (by decide)⟩, s2⟩
    · rintro σ H2 ⟨⟨m, y, z, rfl, m0, m1⟩, s1⟩
      have ab : ∀ n : Int, 0 ≤ (if n < 0 then -n else n) := fun n => by split <;> omega
      have fin : ∀ (b0 : Int) (p : Addr), 0 ≤ b0 → H2 p = none → Q (.ref p) (upd H2 p (.lst [.int b0, .int m])) := fun b0 p h0 np =>
        q p _ ((sL.trans s1).free np) ⟨b0, m, upd_same, h0, m0, by omega⟩ ((sL.trans s1).trans (Same.new np))
      walk_at "vc"
      · intro p np
        exact fin _ p (ab n) np
      · intro p np
        exact fin 0 p (Int.le_refl 0) np
end
/-! _law_take -/
abbrev s_l_take : Stmt := topS 36
abbrev sc_l_take_N : List Str := ["_law_bag_here", "_law_many", "_law_digit"]
theorem sc_l_take : FnScope sc_l_take_N ["_law_bag_here", "_law_many"] (defScope s_l_take) := ⟨rfl, rfl, rfl, by decide +kernel, rfl, by decide +kernel, by decide +kernel⟩
def sp_l_take (K : PySem.W.Frag) : Sp := fun vs H Q _ => ∃ (p : Addr) (m : Int), vs = [.ref p, .int m] ∧ BagN H p ∧ 0 < m ∧ m ≤ 1000000000000000000000000000000000000000000000 ∧ ∀ r H', 0 ≤ r → r < m → BagN H' p → But p H H' → Q (.int r) H'
section
variable {P : Program} {w : World} {K : PySem.W.Frag} {mg : Str → Option Value} {bh : Heap}
theorem ok_l_take {f : Addr} {fd : FuncData}  (B : Blt mg) (T : Txt K mg)  (F : Fun K "_law_take" "_law_take" s_l_take f fd) : FnOk P w K mg bh CX0 1 f fd ["_law_bag_here", "_law_many"] (sp_l_take K) := by
  refine F.ok sc_l_take (fun vs H Q E h => ?_) (fun cdv A outer s H vs Q E hr h => ?_)
  · obtain ⟨p, m, rfl, _⟩ := h
    rfl
  · obtain ⟨p, m, rfl, ⟨b0, b1, hp, h0, h1, h1'⟩, hm, hm', q⟩ := h
    refine ⟨_, (pss_cons (ps_if (pt_cmpR op_gt (pe_ix ix_list (pv 0) pe_int (fun _ _ => rfl)) pe_int (nomark _))
      (pss_cons (ps_set (i := 2) sc_l_take.nd rfl (Or.inl rfl) (pe_op op_mod (pe_callTy call_int1 (by rfl) B.b_int (by decide +kernel) (pa_cons (pe_ix ix_list (pv 0) pe_int (fun _ _ => rfl)) pa_nil)) (pv 1)))
      (pss_cons (ps_asg (pe_op op_fdivW (pe_ix ix_list (pv 0) pe_int (fun _ _ => rfl)) (pv 1)) (pg_sub (pv 0) pe_int set_list))
      (pss_one (ps_ret (pv 2)))))
      pss_nil)
      (pss_cons (ps_asg (pe_op op_mod (pe_callTy call_int1 (by rfl) B.b_int (by decide +kernel) (pa_cons (pe_op op_add (pe_op op_mul (pe_ix ix_list (pv 0) pe_int (fun _ _ => rfl)) pe_int) pe_int) pa_nil)) pe_int) (pg_sub (pv 0) pe_int set_list))
      (pss_one (ps_ret (pe_op op_mod (pe_op op_fdivW (pe_op op_mod (pe_callTy call_int1 (by rfl) B.b_int (by decide +kernel) (pa_cons (pe_op op_mul (pe_op op_fdivW (pe_ix ix_list (pv 0) pe_int (fun _ _ => rfl)) pe_int) pe_int) pa_nil)) pe_int) pe_int) (pv 1)))))), ?_⟩
    walk_at "vc"
    · exact q _ _ (Int.emod_nonneg _ (by omega)) (Int.emod_lt_of_pos _ hm) ⟨_, b1, upd_same, Int.ediv_nonneg h0 (by omega), h1, h1'⟩ fun b n => upd_ne n
    · exact q _ _ (Int.emod_nonneg _ (by omega)) (Int.emod_lt_of_pos _ hm) ⟨b0, _, upd_same, h0, Int.emod_nonneg _ (by decide), Int.emod_lt_of_pos _ (by decide)⟩ fun b n => upd_ne n
end
/-! _law_of -/
abbrev s_l_of : Stmt := topS 37
abbrev sc_l_of_N : List Str := ["_law_bag_here", "_law_some"]
theorem sc_l_of : FnScope sc_l_of_N ["_law_bag_here", "_law_some"] (defScope s_l_of) := ⟨rfl, rfl, rfl, by decide +kernel, rfl, by decide +kernel, by decide +kernel⟩
def sp_l_of (K : PySem.W.Frag) : Sp := fun vs H Q _ => ∃ (p a : Addr) (xs : List V), vs = [.ref p, .ref a] ∧ BagN H p ∧ SqL K H a xs ∧ a ≠ p ∧ 0 < xs.length ∧ xs.length ≤ 1000 ∧ ∀ (j : Nat) x H', xs[j]? = some x → BagN H' p → But p H H' → Q x H'
section
variable {P : Program} {w : World} {K : PySem.W.Frag} {mg : Str → Option Value} {bh : Heap}
theorem ok_l_of {f : Addr} {fd : FuncData} {f_l_take : Addr} {fd_l_take : FuncData} (B : Blt mg) (T : Txt K mg) (R_l_take : Rdy P w K mg bh "_law_take" 1 ["_law_bag_here", "_law_many"] (sp_l_take K) f_l_take fd_l_take) (F : Fun K "_law_of" "_law_of" s_l_of f fd) : FnOk P w K mg bh CX0 2 f fd ["_law_bag_here", "_law_some"] (sp_l_of K) := by
  refine F.ok sc_l_of (fun vs H Q E h => ?_) (fun cdv A outer s H vs Q E hr h => ?_)
  · obtain ⟨p, a, xs, rfl, _⟩ := h
    rfl
  · obtain ⟨p, a, xs, rfl, bg, sq, ne, l0, l1, q⟩ := h
    refine ⟨_, (pss_one (ps_ret (pe_ix ix_list (pv 1) (pe_rdy R_l_take hr (by decide) (by rfl) (pa_cons (pv 0) (pa_cons (pe_callB call_len_seq (by rfl) B.b_len (by decide +kernel) (pa_cons (pv 1) pa_nil)) pa_nil))) (fun _ _ => rfl)))), ?_⟩
    refine ⟨_, rfl, _, rfl, _, rfl, a, _, rfl, .inl sq, p, _, rfl, bg, by omega, by omega, fun r H1 r0 r1 bg1 bt1 => ?_⟩
    have hj : r.toNat < xs.length := by omega
    exact ⟨a, _, _, xs[r.toNat], rfl, rfl, kpL bt1.kp ne sq, at_of (by omega) (List.getElem?_eq_getElem hj), q r.toNat _ H1 (List.getElem?_eq_getElem hj) bg1 bt1⟩
end
/-! _law_edge -/
abbrev s_l_edge : Stmt := topS 38
abbrev sc_l_edge_N : List Str := ["_law_bag_here", "_law_near"]
theorem sc_l_edge : FnScope sc_l_edge_N ["_law_bag_here", "_law_near"] (defScope s_l_edge) := ⟨rfl, rfl, rfl, by decide +kernel, rfl, by decide +kernel, by decide +kernel⟩
def sp_l_edge (K : PySem.W.Frag) : Sp := fun vs H Q _ => ∃ (p : Addr) (m : Int), vs = [.ref p, .int m] ∧ BagN H p ∧ 0 < m ∧ m ≤ 1000000 ∧ ∀ r H', -1000000000000000000000000000000 ≤ r → r ≤ 1000000000000000000000000000000 → BagN H' p → Kp p H H' → Q (.int r) H'
section
variable {P : Program} {w : World} {K : PySem.W.Frag} {mg : Str → Option Value} {bh : Heap}
theorem ok_l_edge {f : Addr} {fd : FuncData} {f_l_of : Addr} {fd_l_of : FuncData} {f_l_take : Addr} {fd_l_take : FuncData} (B : Blt mg) (T : Txt K mg) (R_l_of : Rdy P w K mg bh "_law_of" 2 ["_law_bag_here", "_law_some"] (sp_l_of K) f_l_of fd_l_of) (R_l_take : Rdy P w K mg bh "_law_take" 1 ["_law_bag_here", "_law_many"] (sp_l_take K) f_l_take fd_l_take) (F : Fun K "_law_edge" "_law_edge" s_l_edge f fd) : FnOk P w K mg bh CX0 3 f fd ["_law_bag_here", "_law_near"] (sp_l_edge K) := by
  refine F.ok sc_l_edge (fun vs H Q E h => ?_) (fun cdv A outer s H vs Q E hr h => ?_)
  · obtain ⟨p, m, rfl, _⟩ := h
    rfl
  · obtain ⟨p, m, rfl, bg, m0, m1, q⟩ := h
    refine ⟨_, (pss_cons (ps_if (pt_cmpR op_gt (pe_rdy R_l_take hr (by decide) (by rfl) (pa_cons (pv 0) (pa_cons pe_int pa_nil))) pe_int (nomark _))
      (pss_one (ps_ret (pe_rdy R_l_take hr (by decide) (by rfl) (pa_cons (pv 0) (pa_cons (pv 1) pa_nil)))))
      pss_nil)
      (pss_one (ps_ret (pe_rdy R_l_of hr (by decide) (by rfl) (pa_cons (pv 0) (pa_cons (pe_lst (pa_cons (pe_un un_neg (pe_op op_pow pe_int pe_int)) (pa_cons (pe_op op_pow pe_int pe_int) (pa_cons (pe_un un_neg pe_int) (pa_cons (pe_op op_add (pe_op op_pow pe_int pe_int) (pe_rdy R_l_take hr (by decide) (by rfl) (pa_cons (pv 0) (pa_cons pe_int pa_nil)))) (pa_cons (pe_rdy R_l_take hr (by decide) (by rfl) (pa_cons (pv 0) (pa_cons (pe_op op_pow pe_int pe_int) pa_nil))) pa_nil)))))) pa_nil)))))), ?_⟩
    refine ⟨_, rfl, p, 8, rfl, bg, by omega, by omega, fun k H1 k0 k1 bg1 bt1 => ?_⟩
    refine ⟨_, _, rfl, rfl, _, rfl, ?_⟩
    refine ite2 (fun c1 => ?_) (fun c1 => ?_)
    · exact ⟨_, rfl, _, rfl, p, m, rfl, bg1, m0, by omega, fun r H2 r0 r1 bg2 bt2 => q r H2 (by omega) (by omega) bg2 (bt1.trans bt2).kp⟩
    · refine ⟨_, rfl, _, _, rfl, rfl, ⟨by decide, by decide, by decide⟩, _, rfl, _, _, rfl, rfl, ⟨by decide, by decide, by decide⟩, _, rfl, _, _, rfl, rfl, ⟨by decide, by decide, by decide⟩, _, rfl, p, 5, rfl, bg1, by omega, by omega, fun x H2 x0 x1 bg2 bt2 => ?_⟩
      refine ⟨_, _, rfl, rfl, _, rfl, _, _, rfl, rfl, ⟨by decide, by decide, by decide⟩, p, 1000000000000000000000000000000, rfl, bg2, by omega, by omega, fun y H3 y0 y1 bg3 bt3 => ?_⟩
      refine ⟨(by show 5 ≤ sizeLine; decide), fun L nL => ?_⟩
      have s4 := Same.new (o := .lst [.int (-1000000000000000000000000000000), .int 1000000000000000000000000000000, .int (-1), .int (100000000000000000000000000000 + x), .int y]) nL
      refine ⟨p, L, _, rfl, bg3.same s4, SqL.hp upd_same, bagN_none bg3 nL, (by show 0 < 5; decide), (by show 5 ≤ 1000; decide), fun j v H5 hj bg5 bt5 => ?_⟩
      have kp : Kp p H H5 := (bt1.trans (bt2.trans bt3)).kp.trans ((Kp.same s4).trans bt5.kp)
      match j, hj with
      | 0, hj => obtain rfl := Option.some.inj hj; exact q (-1000000000000000000000000000000) H5 (by omega) (by omega) bg5 kp
      | 1, hj => obtain rfl := Option.some.inj hj; exact q 1000000000000000000000000000000 H5 (by omega) (by omega) bg5 kp
      | 2, hj => obtain rfl := Option.some.inj hj; exact q (-1) H5 (by omega) (by omega) bg5 kp
      | 3, hj => obtain rfl := Option.some.inj hj; exact q (100000000000000000000000000000 + x) H5 (by omega) (by omega) bg5 kp
      | 4, hj => obtain rfl := Option.some.inj hj; exact q y H5 (by omega) (by omega) bg5 kp
end
/-! _law_span -/
abbrev s_l_span : Stmt := topS 39
abbrev sc_l_span_N : List Str := ["_law_bag_here", "_law_near", "_law_one", "_law_other", "_law_pair", "_law_turn"]
theorem sc_l_span : FnScope sc_l_span_N ["_law_bag_here", "_law_near"] (defScope s_l_span) := ⟨rfl, rfl, rfl, by decide +kernel, rfl, by decide +kernel, by decide +kernel⟩
def sp_l_span (K : PySem.W.Frag) : Sp := fun vs H Q _ => ∃ (p : Addr) (m : Int), vs = [.ref p, .int m] ∧ BagN H p ∧ 0 < m ∧ m ≤ 1000000 ∧ ∀ t b e H', H t = none → H' t = some (.tup [.int b, .int e]) → strP (b, e) = true → BagN H' p → Kp p H H' → Q (.ref t) H'
section
variable {P : Program} {w : World} {K : PySem.W.Frag} {mg : Str → Option Value} {bh : Heap}
theorem ok_l_span {f : Addr} {fd : FuncData} {f_l_take : Addr} {fd_l_take : FuncData} {f_l_edge : Addr} {fd_l_edge : FuncData} (B : Blt mg) (T : Txt K mg) (R_l_take : Rdy P w K mg bh "_law_take" 1 ["_law_bag_here", "_law_many"] (sp_l_take K) f_l_take fd_l_take) (R_l_edge : Rdy P w K mg bh "_law_edge" 3 ["_law_bag_here", "_law_near"] (sp_l_edge K) f_l_edge fd_l_edge) (F : Fun K "_law_span" "_law_span" s_l_span f fd) : FnOk P w K mg bh CX0 4 f fd ["_law_bag_here", "_law_near"] (sp_l_span K) := by
  refine F.ok sc_l_span (fun vs H Q E h => ?_) (fun cdv A outer s H vs Q E hr h => ?_)
  · obtain ⟨p, m, rfl, _⟩ := h
    rfl
  · obtain ⟨p, m, rfl, bg, m0, m1, q⟩ := h
    refine ⟨_, (pss_cons (ps_par (i := 2) (j := 3) (by rfl) sc_l_span.nd rfl rfl (by decide) rfl rfl (pa_cons (pe_rdy R_l_edge hr (by decide) (by rfl) (pa_cons (pv 0) (pa_cons (pv 1) pa_nil))) (pa_cons (pe_rdy R_l_edge hr (by decide) (by rfl) (pa_cons (pv 0) (pa_cons (pv 1) pa_nil))) pa_nil)) (by rfl))
      (pss_cons (ps_set (i := 4) sc_l_span.nd rfl (Or.inl rfl) (pe_tup (pa_cons (pe_callB (call_min2 rfl) (by rfl) B.b_min (by decide +kernel) (pa_cons (pv 2) (pa_cons (pv 3) pa_nil))) (pa_cons (pe_callB (call_max2 rfl) (by rfl) B.b_max (by decide +kernel) (pa_cons (pv 2) (pa_cons (pv 3) pa_nil))) pa_nil))))
      (pss_cons (ps_set (i := 5) sc_l_span.nd rfl (Or.inl rfl) (pe_rdy R_l_take hr (by decide) (by rfl) (pa_cons (pv 0) (pa_cons pe_int pa_nil))))
      (pss_cons (ps_if (pt_cmpR op_eq (pv 5) pe_int (nomark _))
      (pss_one (ps_ret (pe_tup (pa_cons (pe_un un_neg (pe_op op_pow pe_int pe_int)) (pa_cons (pe_ix ix_tup (pv 4) pe_int (fun _ _ => rfl)) pa_nil)))))
      pss_nil)
      (pss_cons (ps_if (pt_cmpR op_eq (pv 5) pe_int (nomark _))
      (pss_one (ps_ret (pe_tup (pa_cons (pe_ix ix_tup (pv 4) pe_int (fun _ _ => rfl)) (pa_cons (pe_op op_pow pe_int pe_int) pa_nil)))))
      pss_nil)
      (pss_one (ps_ret (pe_ifExp (pt_cmpR op_lt (pv 5) pe_int (nomark _)) (pe_tup (pa_cons (pe_ix ix_tup (pv 4) pe_int (fun _ _ => rfl)) (pa_cons (pe_ix ix_tup (pv 4) pe_int (fun _ _ => rfl)) pa_nil))) (pv 4))))))))), ?_⟩
    refine ⟨_, rfl, _, rfl, p, m, rfl, bg, m0, m1, fun x H1 x0 x1 bg1 k1 => ⟨_, rfl, _, rfl, p, m, rfl, bg1, m0, m1, fun y H2 y0 y1 bg2 k2 => ⟨_, _, rfl, ?_⟩⟩⟩
    refine ⟨_, rfl, _, rfl, _, _, rfl, _, rfl, _, rfl, _, _, rfl, (by show 2 ≤ sizeLine; decide), fun T nT => ?_⟩
    have hb : -1000000000000000000000000000000 ≤ (if y < x then y else x) ∧ (if y < x then y else x) ≤ (if y > x then y else x) ∧ (if y > x then y else x) ≤ 1000000000000000000000000000000 := by
      (repeat' split) <;> omega
    have base : strP ((if y < x then y else x), (if y > x then y else x)) = true := strP_of hb.1 hb.2.1 hb.2.2
    have sT := Same.new (o := .tup [.int (if y < x then y else x), .int (if y > x then y else x)]) nT
    have k3 : Kp p H (upd H2 T (.tup [.int (if y < x then y else x), .int (if y > x then y else x)])) := (k1.trans k2).trans (Kp.same sT)
    have nH : ∀ b, b ≠ p → H2 b = none → H b = none := fun b hb h => by
      cases e : H b with
      | none => rfl
      | some o => rw [(k1.trans k2) b o hb e] at h; cases h
    refine ⟨_, rfl, p, 12, rfl, bg2.same sT, by omega, by omega, fun k H4 k0 k1' bg4 bt4 => ?_⟩
    have hT4 : H4 T = some (.tup [.int (if y < x then y else x), .int (if y > x then y else x)]) := (bt4 T (bagN_none bg2 nT)).trans upd_same
    have k4 : Kp p H H4 := k3.trans bt4.kp
    have nT' : H T = none := nH T (bagN_none bg2 nT) nT
    have fin : ∀ (t : Addr) (b e : Int), H4 t = none → strP (b, e) = true → Q (.ref t) (upd H4 t (.tup [.int b, .int e])) := fun t b e nt hs => by
      have st := Same.new (o := .tup [.int b, .int e]) nt
      refine q t b e _ ?_ upd_same hs (bg4.same st) (k4.trans (Kp.same st))
      cases eh : H t with
      | none => rfl
      | some o => rw [k4 t o (bagN_none bg4 nt) eh] at nt; cases nt
    refine ⟨_, rfl, rfl, _, rfl, ?_⟩
    refine ite2 (fun c1 => ?_) (fun c1 => ?_)
    · exact ⟨_, _, rfl, rfl, ⟨by decide, by decide, by decide⟩, _, rfl, _, rfl, T, _, 1, _, rfl, rfl, SqT.hp hT4, rfl, (by show 2 ≤ sizeLine; decide), fun t nt => fin t _ _ nt (strP_first base)⟩
    · refine ⟨_, rfl, rfl, _, rfl, ?_⟩
      refine ite2 (fun c2 => ?_) (fun c2 => ?_)
      · exact ⟨_, rfl, T, _, 0, _, rfl, rfl, SqT.hp hT4, rfl, _, _, rfl, rfl, ⟨by decide, by decide, by decide⟩, (by show 2 ≤ sizeLine; decide), fun t nt => fin t _ _ nt (strP_last base)⟩
      · refine ⟨_, rfl, _, _, rfl, rfl, _, rfl, ?_⟩
        refine ite2 (fun c3 => ?_) (fun c3 => ?_)
        · exact ⟨_, rfl, T, _, 0, _, rfl, rfl, SqT.hp hT4, rfl, _, rfl, T, _, 0, _, rfl, rfl, SqT.hp hT4, rfl, (by show 2 ≤ sizeLine; decide), fun t nt => fin t (if y < x then y else x) (if y < x then y else x) nt (strP_of hb.1 (Int.le_refl _) (by omega))⟩
        · exact ⟨_, rfl, q T (if y < x then y else x) (if y > x then y else x) H4 nT' hT4 base bg4 k4⟩
end
/-! _law_spans -/
abbrev s_l_spans : Stmt := topS 40
abbrev sc_l_spans_N : List Str := ["_law_bag_here", "_law_most", "_law_near", "_law_found", "_law_turn"]
theorem sc_l_spans : FnScope sc_l_spans_N ["_law_bag_here", "_law_most", "_law_near"] (defScope s_l_spans) := ⟨rfl, rfl, rfl, by decide +kernel, rfl, by decide +kernel, by decide +kernel⟩
def sp_l_spans (K : PySem.W.Frag) : Sp := fun vs H Q _ => ∃ (p : Addr) (n m : Int), vs = [.ref p, .int n, .int m] ∧ BagN H p ∧ 0 ≤ n ∧ n ≤ 100 ∧ 0 < m ∧ m ≤ 1000000 ∧ ∀ a ts ps H', H a = none → H' a = some (.lst (ts.map V.ref)) → Pd H' ts ps → (∀ x ∈ ps, strP x = true) → (ps.length : Int) ≤ n → BagN H' p → Kp p H H' → Q (.ref a) H'
section
variable {P : Program} {w : World} {K : PySem.W.Frag} {mg : Str → Option Value} {bh : Heap}
theorem ok_l_spans {f : Addr} {fd : FuncData} {f_l_take : Addr} {fd_l_take : FuncData} {f_l_of : Addr} {fd_l_of : FuncData} {f_l_span : Addr} {fd_l_span : FuncData} (B : Blt mg) (T : Txt K mg) (R_l_take : Rdy P w K mg bh "_law_take" 1 ["_law_bag_here", "_law_many"] (sp_l_take K) f_l_take fd_l_take) (R_l_of : Rdy P w K mg bh "_law_of" 2 ["_law_bag_here", "_law_some"] (sp_l_of K) f_l_of fd_l_of) (R_l_span : Rdy P w K mg bh "_law_span" 4 ["_law_bag_here", "_law_near"] (sp_l_span K) f_l_span fd_l_span) (F : Fun K "_law_spans" "_law_spans" s_l_spans f fd) : FnOk P w K mg bh CX0 5 f fd ["_law_bag_here", "_law_most", "_law_near"] (sp_l_spans K) := by
  refine F.ok sc_l_spans (fun vs H Q E h => ?_) (fun cdv A outer s H vs Q E hr h => ?_)
  · obtain ⟨p, n, m, rfl, _⟩ := h
    rfl
  · obtain ⟨p, n, m, rfl, bg, n0, n1, m0, m1, q⟩ := h
    refine ⟨_, (pss_cons (ps_set (i := 3) sc_l_spans.nd rfl (Or.inl rfl) (pe_lst pa_nil))
      (pss_cons (ps_for PassesOwn.never rfl (pi_range1 (by rfl) B.b_range (pa_cons (pe_rdy R_l_take hr (by decide) (by rfl) (pa_cons (pv 0) (pa_cons (pe_op op_add (pv 1) pe_int) pa_nil))) pa_nil)) (pg_name (i := 4) sc_l_spans.nd rfl (Or.inl rfl))
      (pss_one (ps_if (PW.pt (pw_and (pt_cmpR (op_neD hr.units) (pv 3) (pe_lst pa_nil) (nomark _)) (pw_and1 (pt_cmpR op_eq (pe_rdy R_l_take hr (by decide) (by rfl) (pa_cons (pv 0) (pa_cons pe_int pa_nil))) pe_int (nomark _)))))
      (pss_one (ps_expr (pe_bm PySem.F.plainAttrs_list PySem.F.slot_list_append PySem.F.type_list_append mt_append (pv 3) (pa_cons (pe_rdy R_l_of hr (by decide) (by rfl) (pa_cons (pv 0) (pa_cons (pv 3) pa_nil))) pa_nil))))
      (pss_one (ps_expr (pe_bm PySem.F.plainAttrs_list PySem.F.slot_list_append PySem.F.type_list_append mt_append (pv 3) (pa_cons (pe_rdy R_l_span hr (by decide) (by rfl) (pa_cons (pv 0) (pa_cons (pv 2) pa_nil))) pa_nil)))))))
      (pss_one (ps_ret (pv 3))))), ?_⟩
    refine ⟨Nat.zero_le _, fun L nL => ?_⟩
    have sL := Same.new (o := .lst []) nL
    have neL : L ≠ p := bagN_none bg nL
    refine ⟨_, rfl, _, rfl, _, _, rfl, rfl, p, n + 1, rfl, bg.same sL, by omega, by omega, fun k H1 k0 k1 bg1 bt1 => ?_⟩
    have hL1 : H1 L = some (.lst []) := (bt1 L neL).trans upd_same
    have kp1 : Kp p H H1 := (Kp.same sL).trans bt1.kp
    refine ⟨k, rfl, by omega, by omega, ?_⟩
    refine for_range (lo := 0) (n := k.toNat) (fun i σ H' => ∃ y ts ps, σ = [some (.ref p), some (.int n), some (.int m), some (.ref L), y] ∧ H' L = some (.lst (ts.map V.ref)) ∧ Pd H' ts ps ∧ (∀ x ∈ ps, strP x = true) ∧ ps.length ≤ i ∧ BagN H' p ∧ Ks p L H1 H')
      ⟨none, [], [], rfl, hL1, trivial, (fun x h => nomatch h), Nat.zero_le _, bg1, Ks.refl⟩ ?_ ?_
    · rintro i σ H2 hi ⟨y, ts, ps, rfl, hL2, pd, hs, hl, bg2, k2⟩
      have li := pd.len
      have lim : ps.length ≤ 100 := by omega
      have app : ∀ (t : Addr) (x : Pr) (H' : Hp), H' t = some (.tup [.int x.1, .int x.2]) → strP x = true → H' L = some (.lst (ts.map V.ref)) → Pd H' ts ps → BagN H' p → Ks p L H1 H' →
          ∃ y' ts' ps', ([some (.ref p), some (.int n), some (.int m), some (.ref L), some (.int (0 + (i : Int)))] : L2.St) = [some (.ref p), some (.int n), some (.int m), some (.ref L), y'] ∧ (upd H' L (.lst (ts.map V.ref ++ [.ref t]))) L = some (.lst (ts'.map V.ref)) ∧ Pd (upd H' L (.lst (ts.map V.ref ++ [.ref t]))) ts' ps' ∧ (∀ x ∈ ps', strP x = true) ∧ ps'.length ≤ i + 1 ∧ BagN (upd H' L (.lst (ts.map V.ref ++ [.ref t]))) p ∧ Ks p L H1 (upd H' L (.lst (ts.map V.ref ++ [.ref t]))) := by
        intro t x H' ht hx hL' pd' bg' k'
        have ntL : L ≠ t := ne_of hL' ht (fun z => nomatch z)
        refine ⟨_, ts ++ [t], ps ++ [x], rfl, by rw [upd_same, List.map_append]; rfl, ?_, ?_, by rw [List.length_append, List.length_singleton]; omega, bg'.kp Kp.at_ (Ne.symm neL), k'.trans (Ks.kq Kp.at_)⟩
        · exact Pd.app (Pd.kp Kp.at_ (fun xs z => by rw [hL'] at z; cases z) pd') ⟨by rw [upd_ne (Ne.symm ntL)]; exact ht, trivial⟩
        · intro z hz
          rcases List.mem_append.mp hz with hz | hz
          · exact hs z hz
          · rw [List.mem_singleton.mp hz]; exact hx
      refine ⟨_, rfl, Nat.zero_le _, fun M nM => ?_⟩
      have sM := Same.new (o := .lst []) nM
      have bg3 := bg2.same sM
      have hL3 := sM _ _ hL2
      have pd3 := pd.same sM
      have k3 : Ks p L H1 (upd H2 M (.lst [])) := k2.trans (Ks.same sM)
      refine ⟨.list (ps.map prD), .list [], .lst (SqL.hp hL3) pd3.dp, .lst (SqL.hp upd_same) .nil, shapedPs _, shapedNil, _, rfl, ?_⟩
      rw [eqvNil]
      refine ite2 (fun c1 => ?_) (fun c1 => ?_)
      · have hne : ps ≠ [] := by simpa using c1
        refine ⟨_, rfl, p, 6, rfl, bg3, by omega, by omega, fun r H4 r0 r1 bg4 bt4 => ⟨rfl, _, rfl, ?_⟩⟩
        have hL4 := (bt4 L neL).trans hL3
        have pd4 := pd3.kp bt4.kp bg3.ne_tup
        have k4 : Ks p L H1 H4 := k3.trans (Ks.kp bt4.kp)
        refine ite2 (fun c2 => ?_) (fun c2 => ?_)
        · refine ⟨_, rfl, .inl ⟨rfl, _, SqL.hp hL4⟩, _, rfl, _, rfl, p, L, _, rfl, bg4, SqL.hp hL4, neL, by rw [List.length_map, li]; exact List.length_pos_iff.mpr hne, by rw [List.length_map]; omega, fun j v H5 hj bg5 bt5 => ?_⟩
          obtain ⟨t, ht, rfl⟩ := map_get hj
          obtain ⟨x, hx, et⟩ := Pd.get pd4 ht
          have hL5 := (bt5 L neL).trans hL4
          have et5 := (bt5 t (bagN_tup bg4 et)).trans et
          refine ⟨L, _, _, rfl, rfl, hL5, by rw [List.length_map]; exact small1000 (by omega), ?_⟩
          exact app t x H5 et5 (hs x (List.mem_of_getElem? hx)) hL5 (pd4.kp bt5.kp bg4.ne_tup) bg5 (k4.trans (Ks.kp bt5.kp))
        · refine ⟨_, rfl, .inl ⟨rfl, _, SqL.hp hL4⟩, _, rfl, _, rfl, p, m, rfl, bg4, m0, m1, fun t b e H5 nt ht hs5 bg5 k5 => ?_⟩
          have hL5 := k5 L _ neL hL4
          refine ⟨L, _, _, rfl, rfl, hL5, by rw [List.length_map]; exact small1000 (by omega), ?_⟩
          exact app t (b, e) H5 ht hs5 hL5 (pd4.kp k5 bg4.ne_tup) bg5 (k4.trans (Ks.kp k5))
      · refine ⟨_, rfl, .inl ⟨rfl, _, SqL.hp hL3⟩, _, rfl, _, rfl, p, m, rfl, bg3, m0, m1, fun t b e H5 nt ht hs5 bg5 k5 => ?_⟩
        have hL5 := k5 L _ neL hL3
        refine ⟨L, _, _, rfl, rfl, hL5, by rw [List.length_map]; exact small1000 (by omega), ?_⟩
        exact app t (b, e) H5 ht hs5 hL5 (pd3.kp k5 bg3.ne_tup) bg5 (k3.trans (Ks.kp k5))
    · rintro σ H2 ⟨y, ts, ps, rfl, hL2, pd, hs, hl, bg2, k2⟩
      refine ⟨_, rfl, q L ts ps H2 nL hL2 pd hs (by omega) bg2 ?_⟩
      intro b o hb e
      exact k2 b o hb (ne_of_none e nL) (kp1 b o hb e)
end
/-! _law_window -/
abbrev s_l_window : Stmt := topS 41
abbrev sc_l_window_N : List Str := ["_law_bag_here", "_law_near", "_law_one", "_law_left"]
theorem sc_l_window : FnScope sc_l_window_N ["_law_bag_here", "_law_near"] (defScope s_l_window) := ⟨rfl, rfl, rfl, by decide +kernel, rfl, by decide +kernel, by decide +kernel⟩
def sp_l_window (K : PySem.W.Frag) : Sp := fun vs H Q _ => ∃ (p : Addr) (m : Int), vs = [.ref p, .int m] ∧ BagN H p ∧ 0 < m ∧ m ≤ 1000000 ∧ ∀ (t : Addr) (w : Pr) H', H' t = some (.tup [.int w.1, .int w.2]) → winP w = true → BagN H' p → Kp p H H' → Q (.ref t) H'
section
variable {P : Program} {w : World} {K : PySem.W.Frag} {mg : Str → Option Value} {bh : Heap}
theorem ok_l_window {f : Addr} {fd : FuncData} {f_l_take : Addr} {fd_l_take : FuncData} {f_l_of : Addr} {fd_l_of : FuncData} (B : Blt mg) (T : Txt K mg) (R_l_take : Rdy P w K mg bh "_law_take" 1 ["_law_bag_here", "_law_many"] (sp_l_take K) f_l_take fd_l_take) (R_l_of : Rdy P w K mg bh "_law_of" 2 ["_law_bag_here", "_law_some"] (sp_l_of K) f_l_of fd_l_of) (F : Fun K "_law_window" "_law_window" s_l_window f fd) : FnOk P w K mg bh CX0 3 f fd ["_law_bag_here", "_law_near"] (sp_l_window K) := by
  refine F.ok sc_l_window (fun vs H Q E h => ?_) (fun cdv A outer s H vs Q E hr h => ?_)
  · obtain ⟨p, m, rfl, _⟩ := h
    rfl
  · obtain ⟨p, m, rfl, bg, m0, m1, q⟩ := h
    refine ⟨_, (pss_cons (ps_set (i := 2) sc_l_window.nd rfl (Or.inl rfl) (pe_rdy R_l_take hr (by decide) (by rfl) (pa_cons (pv 0) (pa_cons (pv 1) pa_nil))))
      (pss_cons (ps_set (i := 3) sc_l_window.nd rfl (Or.inl rfl) (pe_rdy R_l_of hr (by decide) (by rfl) (pa_cons (pv 0) (pa_cons (pe_lst (pa_cons (pv 2) (pa_cons (pv 2) (pa_cons (pv 2) (pa_cons (pv 2) (pa_cons (pe_un un_neg (pe_op op_pow pe_int pe_int)) pa_nil)))))) pa_nil))))
      (pss_one (ps_ret (pe_tup (pa_cons (pv 3) (pa_cons (pe_rdy R_l_of hr (by decide) (by rfl) (pa_cons (pv 0) (pa_cons (pe_lst (pa_cons (pe_op op_add (pe_op op_add (pv 2) pe_int) (pe_rdy R_l_take hr (by decide) (by rfl) (pa_cons (pv 0) (pa_cons (pv 1) pa_nil)))) (pa_cons (pe_op op_add (pv 2) pe_int) (pa_cons (pe_op op_add (pv 2) pe_int) (pa_cons (pe_op op_pow pe_int pe_int) pa_nil))))) pa_nil))) pa_nil))))))), ?_⟩
    refine ⟨_, rfl, _, rfl, p, m, rfl, bg, m0, by omega, fun x H1 x0 x1 bg1 bt1 => ?_⟩
    refine ⟨_, rfl, _, rfl, _, rfl, _, rfl, _, rfl, _, _, rfl, rfl, ⟨by decide, by decide, by decide⟩, _, rfl, (by show 5 ≤ sizeLine; decide), fun L nL => ?_⟩
    have sL := Same.new (o := .lst [.int x, .int x, .int x, .int x, .int (-10000000000000000000000000000000)]) nL
    refine ⟨p, L, _, rfl, bg1.same sL, SqL.hp upd_same, bagN_none bg1 nL, (by show 0 < 5; decide), (by show 5 ≤ 1000; decide), fun j v H2 hj bg2 bt2 => ?_⟩
    obtain ⟨l, rfl, hl⟩ : ∃ l : Int, v = .int l ∧ (l = x ∨ l = -10000000000000000000000000000000) := by
      match j, hj with
      | 0, hj => exact ⟨x, (Option.some.inj hj).symm, .inl rfl⟩
      | 1, hj => exact ⟨x, (Option.some.inj hj).symm, .inl rfl⟩
      | 2, hj => exact ⟨x, (Option.some.inj hj).symm, .inl rfl⟩
      | 3, hj => exact ⟨x, (Option.some.inj hj).symm, .inl rfl⟩
      | 4, hj => exact ⟨-10000000000000000000000000000000, (Option.some.inj hj).symm, .inr rfl⟩
    have k2 : Kp p H H2 := bt1.kp.trans ((Kp.same sL).trans bt2.kp)
    refine ⟨_, rfl, _, rfl, _, rfl, _, _, rfl, rfl, _, rfl, _, rfl, p, m, rfl, bg2, m0, by omega, fun y H3 y0 y1 bg3 bt3 => ⟨_, _, rfl, rfl, ?_⟩⟩
    refine ⟨_, rfl, _, _, rfl, rfl, _, rfl, _, _, rfl, rfl, _, _, rfl, rfl, ⟨by decide, by decide, by decide⟩, (by show 4 ≤ sizeLine; decide), fun M nM => ?_⟩
    have sM := Same.new (o := .lst [.int (x + 1 + y), .int (x + 1), .int (x + 2), .int 10000000000000000000000000000000]) nM
    refine ⟨p, M, _, rfl, bg3.same sM, SqL.hp upd_same, bagN_none bg3 nM, (by show 0 < 4; decide), (by show 4 ≤ 1000; decide), fun j v H4 hj bg4 bt4 => ?_⟩
    obtain ⟨r, rfl, hr2⟩ : ∃ r : Int, v = .int r ∧ ((x < r ∧ r ≤ 1000000000000000000000000000000) ∨ r = 10000000000000000000000000000000) := by
      match j, hj with
      | 0, hj => exact ⟨x + 1 + y, (Option.some.inj hj).symm, .inl (by omega)⟩
      | 1, hj => exact ⟨x + 1, (Option.some.inj hj).symm, .inl (by omega)⟩
      | 2, hj => exact ⟨x + 2, (Option.some.inj hj).symm, .inl (by omega)⟩
      | 3, hj => exact ⟨10000000000000000000000000000000, (Option.some.inj hj).symm, .inr rfl⟩
    have k4 : Kp p H H4 := k2.trans (bt3.kp.trans ((Kp.same sM).trans bt4.kp))
    refine ⟨(by show 2 ≤ sizeLine; decide), fun t nt => ?_⟩
    have st := Same.new (o := .tup [.int l, .int r]) nt
    exact q t (l, r) _ upd_same (winP_of (by omega) (by omega) (by omega)) (bg4.same st) (k4.trans (Kp.same st))
end
/-! _law_meets -/
abbrev s_l_meets : Stmt := topS 42
abbrev sc_l_meets_N : List Str := ["_law_pair", "_law_other", "_law_word", "_law_left", "_law_right"]
theorem sc_l_meets : FnScope sc_l_meets_N ["_law_pair", "_law_other", "_law_word"] (defScope s_l_meets) := ⟨rfl, rfl, rfl, by decide +kernel, rfl, by decide +kernel, by decide +kernel⟩
def sp_l_meets (K : PySem.W.Frag) : Sp := fun vs H Q _ => ∃ (t u : Addr) (p w : Pr) (z : Bool), vs = [.ref t, .ref u, endsV z] ∧ SqT K H t [.int p.1, .int p.2] ∧ SqT K H u [.int w.1, .int w.2] ∧ Q (.bl (meetB z p w)) H
section
variable {P : Program} {w : World} {K : PySem.W.Frag} {mg : Str → Option Value} {bh : Heap}
theorem ok_l_meets {f : Addr} {fd : FuncData}  (B : Blt mg) (T : Txt K mg)  (F : Fun K "_law_meets" "_law_meets" s_l_meets f fd) : FnOk P w K mg bh CX0 1 f fd ["_law_pair", "_law_other", "_law_word"] (sp_l_meets K) := by
  refine F.ok sc_l_meets (fun vs H Q E h => ?_) (fun cdv A outer s H vs Q E hr h => ?_)
  · obtain ⟨t, u, p, w, z, rfl, _⟩ := h
    rfl
  · obtain ⟨t, u, p, w, z, rfl, s1, s2, q⟩ := h
    refine ⟨_, (pss_cons (ps_par (i := 3) (j := 4) (by rfl) sc_l_meets.nd rfl rfl (by decide) rfl rfl (pa_cons (pe_callB (call_max2 rfl) (by rfl) B.b_max (by decide +kernel) (pa_cons (pe_ix ix_tup (pv 0) pe_int (fun _ _ => rfl)) (pa_cons (pe_ix ix_tup (pv 1) pe_int (fun _ _ => rfl)) pa_nil))) (pa_cons (pe_callB (call_min2 rfl) (by rfl) B.b_min (by decide +kernel) (pa_cons (pe_ix ix_tup (pv 0) pe_int (fun _ _ => rfl)) (pa_cons (pe_ix ix_tup (pv 1) pe_int (fun _ _ => rfl)) pa_nil))) pa_nil)) (by rfl))
      (pss_one (ps_ret (pe_or (pe_cmpR op_lt (pv 3) (pv 4) (nomark _)) (pe_one (pe_and (pe_cmpR op_eq (pv 2) pe_str (nomark _)) (pe_one (pe_cmpR op_eq (pv 3) (pv 4) (nomark _))))))))), ?_⟩
    have fin : ∀ r, meetB z p w = r → Q (.bl r) H := fun r h => h ▸ q
    refine ⟨_, rfl, t, _, 0, _, rfl, rfl, s1, rfl, _, rfl, u, _, 0, _, rfl, rfl, s2, rfl, _, _, rfl, _, rfl, t, _, 1, _, rfl, rfl, s1, rfl, _, rfl, u, _, 1, _, rfl, rfl, s2, rfl, _, _, rfl, _, _, rfl, ?_⟩
    refine ⟨_, rfl, _, rfl, _, _, rfl, rfl, _, rfl, ?_⟩
    refine ite2 (fun c1 => ?_) (fun c1 => ?_)
    · refine fin true ?_
      have c1 : decide (mx p.1 w.1 < mn p.2 w.2) = true := c1
      unfold meetB
      rw [c1, Bool.true_or]
    · refine ⟨_, rfl, endsV_scal z, _, rfl, ?_⟩
      rw [endsV_shut]
      have c1 : decide (mx p.1 w.1 < mn p.2 w.2) = false := Bool.eq_false_iff.mpr c1
      cases z with
      | true =>
        refine iteT ⟨_, rfl, _, rfl, rfl, fin _ ?_⟩
        unfold meetB
        rw [c1, Bool.false_or, Bool.true_and]
        exact decide_eq_decide.mpr ⟨fun h => (congrArg V.int h : V.int (mx p.1 w.1) = V.int (mn p.2 w.2)), fun h => V.int.inj h⟩
      | false =>
        refine iteF (fin _ ?_)
        unfold meetB
        rw [c1, Bool.false_or, Bool.false_and]
end
/-! _law_pieces -/
abbrev s_l_pieces : Stmt := topS 43
abbrev sc_l_pieces_N : List Str := ["_law_spans_here", "_law_word", "_law_found", "_law_pair", "_law_low", "_law_high", "_law_apart", "_law_other"]
theorem sc_l_pieces : FnScope sc_l_pieces_N ["_law_spans_here", "_law_word"] (defScope s_l_pieces) := ⟨rfl, rfl, rfl, by decide +kernel, rfl, by decide +kernel, by decide +kernel⟩
def sp_l_pieces (K : PySem.W.Frag) : Sp := fun vs H Q _ => ∃ (a : Addr) (ts : List Addr) (ps : List Pr) (z : Bool), vs = [.ref a, endsV z] ∧ SqL K H a (ts.map V.ref) ∧ Pd H ts ps ∧ (∀ x ∈ ps, strP x = true) ∧ ps.length ≤ 200 ∧ ∀ r us H', H r = none → H' r = some (.lst (us.map V.ref)) → Pd H' us (unionM z ps) → Same H H' → Q (.ref r) H'
section
variable {P : Program} {w : World} {K : PySem.W.Frag} {mg : Str → Option Value} {bh : Heap}
theorem ok_l_pieces {f : Addr} {fd : FuncData}  (B : Blt mg) (T : Txt K mg)  (F : Fun K "_law_pieces" "_law_pieces" s_l_pieces f fd) : FnOk P w K mg bh CX0 1 f fd ["_law_spans_here", "_law_word"] (sp_l_pieces K) := by
  refine F.ok sc_l_pieces (fun vs H Q E h => ?_) (fun cdv A outer s H vs Q E hr h => ?_)
  · obtain ⟨a, ts, ps, z, rfl, _⟩ := h
    rfl
  · obtain ⟨a, ts, ps, z, rfl, sq, pd, hst, hlen, q⟩ := h
    refine ⟨_, (pss_cons (ps_set (i := 2) sc_l_pieces.nd rfl (Or.inl rfl) (pe_lst pa_nil))
      (pss_cons (ps_for PassesOwn.never rfl (pi_list (pv 0)) (pg_name (i := 3) sc_l_pieces.nd rfl (Or.inl rfl))
      (pss_one (ps_if (PW.pt (pw_or (pt_cmpR op_eq (pv 1) pe_str (nomark _)) (pw_or1 (pt_cmpR op_lt (pe_ix ix_tup (pv 3) pe_int (fun _ _ => rfl)) (pe_ix ix_tup (pv 3) pe_int (fun _ _ => rfl)) (nomark _)))))
      (pss_cons (ps_asg (pv 3) (pg_tup (by rfl) (pgs_cons (pg_name (i := 4) sc_l_pieces.nd rfl (Or.inl rfl)) (pgs_cons (pg_name (i := 5) sc_l_pieces.nd rfl (Or.inl rfl)) pgs_nil))))
      (pss_cons (ps_set (i := 6) sc_l_pieces.nd rfl (Or.inl rfl) (pe_lst pa_nil))
      (pss_cons (ps_for PassesOwn.never rfl (pi_list (pv 2)) (pg_name (i := 7) sc_l_pieces.nd rfl (Or.inl rfl))
      (pss_one (ps_if (PW.pt (pw_or (pt_cmpR op_lt (pe_ix ix_tup (pv 7) pe_int (fun _ _ => rfl)) (pv 4) (nomark _)) (pw_or1 (pt_cmpR op_lt (pv 5) (pe_ix ix_tup (pv 7) pe_int (fun _ _ => rfl)) (nomark _)))))
      (pss_one (ps_expr (pe_bm PySem.F.plainAttrs_list PySem.F.slot_list_append PySem.F.type_list_append mt_append (pv 6) (pa_cons (pv 7) pa_nil))))
      (pss_one (ps_par (i := 4) (j := 5) (by rfl) sc_l_pieces.nd rfl rfl (by decide) rfl rfl (pa_cons (pe_callB (call_min2 rfl) (by rfl) B.b_min (by decide +kernel) (pa_cons (pv 4) (pa_cons (pe_ix ix_tup (pv 7) pe_int (fun _ _ => rfl)) pa_nil))) (pa_cons (pe_callB (call_max2 rfl) (by rfl) B.b_max (by decide +kernel) (pa_cons (pv 5) (pa_cons (pe_ix ix_tup (pv 7) pe_int (fun _ _ => rfl)) pa_nil))) pa_nil)) (by rfl))))))
      (pss_one (ps_set (i := 2) sc_l_pieces.nd rfl (Or.inl rfl) (pe_callB cr_sortedPO (by rfl) B.b_sorted (by decide +kernel) (pa_cons (pe_op op_cat (pv 6) (pe_lst (pa_cons (pe_tup (pa_cons (pv 4) (pa_cons (pv 5) pa_nil))) pa_nil))) pa_nil)))))))
      pss_nil)))
      (pss_one (ps_ret (pv 2))))), ?_⟩
    refine ⟨Nat.zero_le _, fun F0 nF0 => ?_⟩
    have sF := Same.new (o := .lst []) nF0
    refine ⟨_, rfl, a, rfl, ⟨_, sF.seq sq⟩, ?_⟩
    refine for_list (K := K) (a := a) (xs := ts.map V.ref) (fun i σ H' => ∃ y3 y4 y5 y6 y7 F us, σ = [some (.ref a), some (endsV z), some (.ref F), y3, y4, y5, y6, y7] ∧ H' F = some (.lst (us.map V.ref)) ∧ Pd H' us ((ps.take i).foldl (pcStep z) []) ∧ Same H H' ∧ H F = none)
      ⟨none, none, none, none, none, F0, [], rfl, upd_same, trivial, sF, nF0⟩ (fun i σ H' _ h => by obtain ⟨_, _, _, _, _, _, _, _, _, _, s, _⟩ := h; exact s.seq sq) ?_ ?_
    · rintro i x σ H1 hx ⟨y3, y4, y5, y6, y7, F, us, rfl, hF, pu, s1, nF⟩
      obtain ⟨t, ht, rfl⟩ := map_get hx
      obtain ⟨p, hp, et0⟩ := Pd.get pd ht
      have et := s1 _ _ et0
      have hle : ((ps.take i).foldl (pcStep z) []).length ≤ 200 := by
        have := pieces_len (z := z) (ps := ps.take i)
        have h2 : (ps.take i).length ≤ ps.length := List.length_take_le' ..
        unfold pieces at this
        omega
      rw [step_take hp]
      generalize (ps.take i).foldl (pcStep z) [] = fs at *
      have lu := pu.len
      refine ⟨_, rfl, endsV_scal z, _, rfl, ?_⟩
      rw [endsV_shut]
      refine or_mid (c2 := decide (p.1 < p.2)) (fun cc => ?_) (fun z0 yes => ?_)
      · refine ⟨_, rfl, t, _, rfl, SqT.hp et, rfl, _, _, rfl, _, _, rfl, rfl, ?_⟩
        refine ⟨Nat.zero_le _, fun A nA => ?_⟩
        have sA := Same.new (o := .lst []) nA
        have hF' := sA _ _ hF
        refine ⟨_, rfl, F, rfl, ⟨_, SqL.hp hF'⟩, ?_⟩
        refine for_list (K := K) (a := F) (xs := us.map V.ref) (fun k σ H' => ∃ y7 vs, σ = [some (.ref a), some (endsV z), some (.ref F), some (.ref t), some (.int ((fs.take k).foldl pcS ([], p)).2.1), some (.int ((fs.take k).foldl pcS ([], p)).2.2), some (.ref A), y7] ∧ H' A = some (.lst (vs.map V.ref)) ∧ Pd H' vs ((fs.take k).foldl pcS ([], p)).1 ∧ Kp A (upd H1 A (.lst [])) H')
          ⟨y7, [], rfl, upd_same, trivial, Kp.refl⟩ (fun k σ H' _ h => ?_) ?_ ?_
        · obtain ⟨_, _, _, _, _, kp⟩ := h
          exact SqL.hp (kp _ _ (ne_of_none hF nA) hF')
        · rintro k x σ H2 hk ⟨y7, vs, rfl, hA, pv2, kp⟩
          obtain ⟨u, hu, rfl⟩ := map_get hk
          obtain ⟨o, ho, eu0⟩ := Pd.get pu hu
          have neu : u ≠ A := ne_of_none eu0 nA
          have eu := kp _ _ neu (sA _ _ eu0)
          have lv := pv2.len
          have lk := pcS_len (fs.take k) p []
          have lk2 : (fs.take k).length ≤ fs.length := List.length_take_le' ..
          rw [pcS_take ho]
          generalize (fs.take k).foldl pcS ([], p) = S at *
          refine ⟨_, rfl, u, _, 1, _, rfl, rfl, SqT.hp eu, rfl, _, rfl, _, _, rfl, rfl, _, rfl, ?_⟩
          refine or_mid (c2 := decide (S.2.2 < o.1)) (fun cc => ?_) (fun z0 yes => ?_)
          · have e : pcS S o = (S.1 ++ [o], S.2) := if_pos (by simpa using cc)
            rw [e]
            refine ⟨_, rfl, .inl ⟨rfl, _, SqL.hp hA⟩, _, rfl, A, _, _, rfl, rfl, hA, ?_, ?_⟩
            · rw [List.length_map]
              exact small1000 (by simp only [List.length_nil] at lk; omega)
            · refine ⟨_, vs ++ [u], rfl, by rw [upd_same, List.map_append]; rfl, ?_, kp.trans Kp.at_⟩
              refine Pd.app (Pd.kp Kp.at_ (fun xs z => by rw [hA] at z; cases z) pv2) ⟨?_, trivial⟩
              rw [upd_ne neu]
              exact eu
          · refine ⟨_, rfl, _, rfl, u, _, 0, _, rfl, rfl, SqT.hp eu, rfl, _, _, rfl, rfl, _, rfl, ?_⟩
            refine ite2 yes (fun c2 => ?_)
            have e : pcS S o = (S.1, (mn S.2.1 o.1, mx S.2.2 o.2)) := if_neg (by
              have := of_decide_eq_false z0
              have c2 : ¬ S.2.2 < o.1 := fun h => c2 (decide_eq_true h)
              omega)
            rw [e]
            exact ⟨_, rfl, _, rfl, u, _, 0, _, rfl, rfl, SqT.hp eu, rfl, _, _, rfl, _, rfl, _, rfl, u, _, 1, _, rfl, rfl, SqT.hp eu, rfl, _, _, rfl, _, _, rfl, _, vs, rfl, hA, pv2, kp⟩
        · rintro σ H2 ⟨y7, vs, rfl, hA, pv2, kp⟩
          rw [List.length_map, lu, List.take_length] at pv2 ⊢
          rw [pcStep_pos cc]
          have lk := pcS_len fs p []
          have lv := pv2.len
          simp only [List.length_nil] at lk
          generalize fs.foldl pcS ([], p) = S at *
          have s12 : Same H1 H2 := fun b o hb => kp b o (ne_of_none hb nA) (sA _ _ hb)
          refine ⟨_, rfl, _, rfl, _, rfl, (by show 2 ≤ sizeLine; decide), fun T nT => ⟨(by show 1 ≤ sizeLine; decide), fun L nL => ?_⟩⟩
          have sT := Same.new (o := .tup [.int S.2.1, .int S.2.2]) nT
          have sL := Same.new (o := .lst [.ref T]) nL
          have hT : (upd (upd H2 T (.tup [.int S.2.1, .int S.2.2])) L (.lst [.ref T])) T = some (.tup [.int S.2.1, .int S.2.2]) := sL _ _ upd_same
          refine ⟨A, L, _, _, rfl, rfl, sL _ _ (sT _ _ hA), upd_same, Nat.le_of_lt (small1000 (by rw [List.length_map, List.length_singleton]; omega)), fun D nD => ?_⟩
          have sD := Same.new (o := .lst (vs.map V.ref ++ [.ref T])) nD
          have sAll := (sT.trans sL).trans sD
          have pdc : Pd (upd (upd (upd H2 T (.tup [.int S.2.1, .int S.2.2])) L (.lst [.ref T])) D (.lst (vs.map V.ref ++ [.ref T]))) (vs ++ [T]) (S.1 ++ [S.2]) :=
            Pd.app (pv2.same sAll) ⟨sD _ _ hT, trivial⟩
          refine ⟨D, (vs ++ [T]).map V.ref, kOf _, rfl, SqL.hp (by rw [upd_same, List.map_append]; rfl), pdc.all, fun ys m hs hb nm => ?_⟩
          obtain ⟨ws, rfl, pw⟩ := sorted_refs pdc hs hb
          have sm := Same.new (o := .lst (ws.map V.ref)) nm
          have sE := ((s1.trans s12).trans sAll).trans sm
          exact ⟨_, _, _, _, _, m, ws, rfl, upd_same, pw.same sm, sE, ((s1.trans s12).trans sAll).free nm⟩
      · refine ⟨_, rfl, t, _, 0, _, rfl, rfl, SqT.hp et, rfl, _, rfl, t, _, 1, _, rfl, rfl, SqT.hp et, rfl, _, _, rfl, rfl, _, rfl, ?_⟩
        refine ite2 yes (fun c2 => ?_)
        rw [pcStep_neg (by rw [z0, Bool.false_or]; exact c2)]
        exact ⟨_, _, _, _, _, F, us, rfl, hF, pu, s1, nF⟩
    · rintro σ H1 ⟨y3, y4, y5, y6, y7, F, us, rfl, hF, pu, s1, nF⟩
      rw [List.length_map, pd.len, List.take_length, show ps.foldl (pcStep z) [] = unionM z ps from pieces_is fun x hx => strP_le (hst x hx)] at pu
      exact ⟨_, rfl, q F us H1 nF hF pu s1⟩
end
/-! has_clash -/
abbrev s_has_clash : Stmt := topS 24
abbrev sc_has_clash_N : List Str := ["spans", "ends", "reach", "begin", "end", "span"]
theorem sc_has_clash : FnScope sc_has_clash_N ["spans", "ends"] (defScope s_has_clash) := ⟨rfl, rfl, rfl, by decide +kernel, rfl, by decide +kernel, by decide +kernel⟩
def sp_has_clash (K : PySem.W.Frag) : Sp := fun vs H Q _ => ∃ (a : Addr) (ts : List Addr) (ps : List Pr) (z : Bool), vs = [.ref a, endsV z] ∧ Sq K H a (ts.map V.ref) ∧ Pd H ts ps ∧ (∀ p ∈ ps, strP p = true) ∧ ps.length ≤ 1000 ∧ ∀ H', Same H H' → Q (.bl (clashB z ps)) H'
section
variable {P : Program} {w : World} {K : PySem.W.Frag} {mg : Str → Option Value} {bh : Heap}
theorem ok_has_clash {f : Addr} {fd : FuncData} {f_is_empty : Addr} {fd_is_empty : FuncData} (B : Blt mg) (T : Txt K mg) (R_is_empty : RdyD P w K mg bh "is_empty" 2 ["pair", "ends"] [.str "half"] (sp_is_empty K) f_is_empty fd_is_empty) (F : Fun K "has_clash" "has_clash" s_has_clash f fd) : FnOk P w K mg bh CX0 3 f fd ["spans", "ends"] (sp_has_clash K) := by
  refine F.ok sc_has_clash (fun vs H Q E h => ?_) (fun cdv A outer s H vs Q E hr h => ?_)
  · obtain ⟨a, ts, ps, z, rfl, _⟩ := h
    rfl
  · obtain ⟨a, ts, ps, z, rfl, sq, pd, hst, hlen, q⟩ := h
    refine ⟨_, (pss_cons (ps_set (i := 2) sc_has_clash.nd rfl (Or.inl rfl) (pe_globI T.g_FIRST (by rfl)))
      (pss_cons (ps_for PassesOwn.never rfl (pi_list (pe_callB cr_sortedPO (by rfl) B.b_sorted (by decide +kernel) (pa_cons (pe_lc (own := [("span", 5)]) (by rfl) sc_has_clash.nd (pi_sq (pv 0)) (blkOk_by (own := [("span", 5)]) (N := sc_has_clash_N) (sc := defScope s_has_clash) (by decide +kernel)) (fun _ _ _ _ _ => (pg_name (i := 5) sc_has_clash.nd rfl (Or.inl rfl))) (fun _ _ _ _ _ => (pts_one (pt_not (pt_val (pe_rdyD R_is_empty hr (by decide) (by rfl) (pa_cons (pv 5) (pa_cons (pv 1) pa_nil))))))) (fun _ _ _ _ _ => (pv 5))) pa_nil))) (pg_tup (by rfl) (pgs_cons (pg_name (i := 3) sc_has_clash.nd rfl (Or.inl rfl)) (pgs_cons (pg_name (i := 4) sc_has_clash.nd rfl (Or.inl rfl)) pgs_nil)))
      (pss_cons (ps_if (PW.pt (pw_and (pt_cmpR op_gt (pv 2) (pe_globI T.g_FIRST (by rfl)) (nomark _)) (pw_and1 (pt_not (pt_val (pe_rdyD R_is_empty hr (by decide) (by rfl) (pa_cons (pe_tup (pa_cons (pv 3) (pa_cons (pv 2) pa_nil))) (pa_cons (pv 1) pa_nil))))))))
      (pss_one (ps_ret pe_bl))
      pss_nil)
      (pss_one (ps_set (i := 2) sc_has_clash.nd rfl (Or.inl rfl) (pe_callB (call_max2 rfl) (by rfl) B.b_max (by decide +kernel) (pa_cons (pv 2) (pa_cons (pv 4) pa_nil)))))))
      (pss_one (ps_ret pe_bl)))), ?_⟩
    have s12 : Same H H := Same.refl H
    refine ⟨_, rfl, a, _, rfl, sq, fun J wk D nD => ?_⟩
    refine lc_it wk (fun i H' => ∃ us, Same H H' ∧ H' D = some (.lst (us.map V.ref)) ∧ Pd H' us ((ps.take i).filter fun p => !emp z p)) ⟨[], Same.new nD, upd_same, trivial⟩ (fun i H' _ h => sameK h.choose_spec.1) ?_ ?_
    · rintro i x H3 H4 hi ⟨us, ss, hD, pu⟩ ⟨rfl, hx⟩
      obtain ⟨t, ht, rfl⟩ := map_get hx
      obtain ⟨p, hp, et⟩ := Pd.get pd ht
      have et3 := (s12.trans ss) _ _ et
      have lu := pu.len
      have lf : ((ps.take i).filter fun p => !emp z p).length ≤ ps.length := Nat.le_trans (List.length_filter_le ..) (List.length_take_le' ..)
      refine ⟨rfl, ?_⟩
      refine ⟨_, rfl, _, rfl, t, p.1, p.2, z, rfl, SqT.hp et3, fun H5 s5 => ⟨_, rfl, ?_⟩⟩
      have et5 := s5 _ _ et3
      rw [take_more hp, List.filter_append]
      refine ite2 (fun c => ?_) (fun c => ?_)
      · have nDt : D ≠ t := ne_of (s5 _ _ hD) et5 (fun z => nomatch z)
        refine ⟨_, rfl, us.map V.ref, s5 _ _ hD, ?_, us ++ [t], ?_, ?_, ?_⟩
        · rw [List.length_map]
          exact small1000 (by omega)
        · intro b o hb
          rw [upd_ne (ne_of_none hb nD)]
          exact s5 _ _ (ss _ _ hb)
        · rw [upd_same, List.map_append]; rfl
        · have kp : Kp D H5 (upd H5 D (.lst (us.map V.ref ++ [.ref t]))) := Kp.at_
          rw [show List.filter (fun p => !emp z p) [p] = [p] from List.filter_cons_of_pos (p := fun p => !emp z p) c]
          refine Pd.app (Pd.kp kp (fun xs z => by rw [s5 _ _ hD] at z; cases z) (pu.same s5)) ⟨?_, trivial⟩
          rw [upd_ne (Ne.symm nDt)]
          exact et5
      · rw [show List.filter (fun p => !emp z p) [p] = [] from List.filter_cons_of_neg (p := fun p => !emp z p) c, List.append_nil]
        exact ⟨us, ss.trans s5, s5 _ _ hD, pu.same s5⟩
    · rintro H3 ⟨us, ss, hD, pu⟩
      rw [List.length_map, pd.len, List.take_length] at pu
      refine ⟨D, _, kOf H3, rfl, SqL.hp hD, pu.all, fun ys m hs hb nm => ?_⟩
      obtain ⟨vs, rfl, pv'⟩ := sorted_refs pu hs hb
      have sm : Same H3 (upd H3 m (.lst (vs.map V.ref))) := Same.new nm
      have s3 := s12.trans ss
      have ec := clash_is (z := z) (ps := ps) (fun p hp => strP_le (hst p hp)) (fun p hp => strP_first' (hst p hp))
      have pw := pv'.same sm
      generalize srt (ps.filter fun p => !emp z p) = L at *
      refine ⟨m, rfl, ⟨_, SqL.hp upd_same⟩, ?_⟩
      refine for_list (K := K) (a := m) (xs := vs.map V.ref) (fun i σ H' => ∃ r y3 y4, σ = [some (.ref a), some (endsV z), some (.int r), y3, y4, none] ∧ Same (upd H3 m (.lst (vs.map V.ref))) H' ∧ clashF z r (L.drop i) = clashB z ps)
        ⟨_, none, none, rfl, Same.refl _, ec⟩ (fun i σ H' _ h => by obtain ⟨_, _, _, _, s, _⟩ := h; exact SqL.hp (s _ _ upd_same)) ?_ ?_
      · rintro i x σ H5 hx ⟨r, y3, y4, rfl, s5, hc⟩
        obtain ⟨t, ht, rfl⟩ := map_get hx
        obtain ⟨p, hp, et0⟩ := Pd.get pw ht
        have et := s5 _ _ et0
        have hd : L.drop i = p :: L.drop (i + 1) := by
          obtain ⟨hl, e⟩ := List.getElem?_eq_some_iff.mp hp
          rw [List.drop_eq_getElem_cons hl, e]
        rw [hd] at hc
        unfold clashF at hc
        have no : ¬ (decide (r > -10000000000000000000000000000000) && !emp z (p.1, r)) = true → clashF z (mx r p.2) (L.drop (i + 1)) = clashB z ps := fun c => by rw [if_neg c] at hc; exact hc
        have yes : (decide (r > -10000000000000000000000000000000) && !emp z (p.1, r)) = true → clashB z ps = true := fun c => by rw [if_pos c] at hc; exact hc.symm
        refine ⟨t, _, rfl, SqT.hp et, rfl, _, _, rfl, _, _, rfl, rfl, ?_⟩
        refine ⟨_, rfl, _, _, rfl, rfl, _, rfl, ?_⟩
        refine ite2 (fun c1 => ?_) (fun c1 => ?_)
        · refine ⟨_, rfl, _, rfl, (by show 2 ≤ sizeLine; decide), fun T nT => ?_⟩
          have sT := Same.new (o := .tup [.int p.1, .int r]) nT
          refine ⟨_, rfl, T, p.1, r, z, rfl, SqT.hp upd_same, fun H7 s7 => ⟨_, rfl, ?_⟩⟩
          have s8 := (s5.trans sT).trans s7
          refine ite2 (fun c2 => ?_) (fun c2 => ?_)
          · have e := q H7 ((s3.trans sm).trans s8)
            rw [yes (by rw [show decide (r > -10000000000000000000000000000000) = true from c1, c2]; rfl)] at e
            exact e
          · exact ⟨_, rfl, _, rfl, _, _, rfl, _, _, _, rfl, s8, no (by rw [Bool.and_eq_true]; exact fun h => c2 h.2)⟩
        · exact ⟨_, rfl, _, rfl, _, _, rfl, _, _, _, rfl, s5, no (by rw [Bool.and_eq_true]; exact fun h => c1 h.1)⟩
      · rintro σ H5 ⟨r, y3, y4, rfl, s5, hc⟩
        rw [List.length_map, pw.len, List.drop_length] at hc
        have e := q H5 ((s3.trans sm).trans s5)
        rw [← hc] at e
        exact e
end
/-! has_cover -/
abbrev s_has_cover : Stmt := topS 25
abbrev sc_has_cover_N : List Str := ["spans", "window", "ends", "left", "right", "begin", "end"]
theorem sc_has_cover : FnScope sc_has_cover_N ["spans", "window", "ends"] (defScope s_has_cover) := ⟨rfl, rfl, rfl, by decide +kernel, rfl, by decide +kernel, by decide +kernel⟩
def sp_has_cover (K : PySem.W.Frag) : Sp := fun vs H Q _ => ∃ (a u : Addr) (ts : List Addr) (ps : List Pr) (w : Pr) (z : Bool), vs = [.ref a, .ref u, endsV z] ∧ Sq K H a (ts.map V.ref) ∧ Pd H ts ps ∧ (∀ p ∈ ps, strP p = true) ∧ ps.length ≤ 1000 ∧ SqT K H u [.int w.1, .int w.2] ∧ ∀ H', Same H H' → Q (.bl (covB (unionM z ps) w)) H'
section
variable {P : Program} {w : World} {K : PySem.W.Frag} {mg : Str → Option Value} {bh : Heap}
theorem ok_has_cover {f : Addr} {fd : FuncData} {f_union : Addr} {fd_union : FuncData} (B : Blt mg) (T : Txt K mg) (R_union : RdyD P w K mg bh "union" 6 ["spans", "ends"] [.str "half"] (sp_union K) f_union fd_union) (F : Fun K "has_cover" "has_cover" s_has_cover f fd) : FnOk P w K mg bh CX0 7 f fd ["spans", "window", "ends"] (sp_has_cover K) := by
  refine F.ok sc_has_cover (fun vs H Q E h => ?_) (fun cdv A outer s H vs Q E hr h => ?_)
  · obtain ⟨a, u, ts, ps, w, z, rfl, _⟩ := h
    rfl
  · obtain ⟨a, u, ts, ps, w, z, rfl, sq, pd, hst, hlen, sw, q⟩ := h
    refine ⟨_, (pss_cons (ps_asg (pv 1) (pg_tup (by rfl) (pgs_cons (pg_name (i := 3) sc_has_cover.nd rfl (Or.inr rfl)) (pgs_cons (pg_name (i := 4) sc_has_cover.nd rfl (Or.inr rfl)) pgs_nil))))
      (pss_one (ps_ret (pe_callB (cr_any rfl) (by rfl) B.b_any (by decide +kernel) (pa_cons (pe_lc (own := [("begin", 5), ("end", 6)]) (g := (gTup K 2 (gCons (gName 5) (gCons (gName 6) gNil)))) (by rfl) sc_has_cover.nd (pi_sq (pe_rdyD R_union hr (by decide) (by rfl) (pa_cons (pv 0) (pa_cons (pv 2) pa_nil)))) (blkOk_by (own := [("begin", 5), ("end", 6)]) (N := sc_has_cover_N) (sc := defScope s_has_cover) (by decide +kernel)) (fun _ _ _ _ _ => (pg_tup (by rfl) (pgs_cons (pg_name (i := 5) sc_has_cover.nd rfl (Or.inl rfl)) (pgs_cons (pg_name (i := 6) sc_has_cover.nd rfl (Or.inl rfl)) pgs_nil)))) (fun _ _ _ _ _ => pts_nil) (fun _ _ _ _ _ => (pe_and (pe_cmpR op_le (pv 5) (pv 3) (nomark _)) (pe_one (pe_cmpR op_ge (pv 6) (pv 4) (nomark _)))))) pa_nil))))), ?_⟩
    refine ⟨_, rfl, u, _, rfl, sw, rfl, _, _, rfl, _, _, rfl, rfl, ?_⟩
    refine ⟨_, rfl, _, rfl, a, ts, ps, z, rfl, sq, pd, hst, hlen, fun r us H1 nr hr1 pu s1 => ?_⟩
    refine ⟨r, _, rfl, .inl (SqL.hp hr1), fun J wk D nD => ?_⟩
    have lu : (unionM z ps).length ≤ ps.length + 1 := union_len z ps
    generalize unionM z ps = L at *
    refine lc_it wk (fun i H' => Same H1 H' ∧ H' D = some (.lst (((L.take i).map fun p => decide (p.1 ≤ w.1) && decide (w.2 ≤ p.2)).map V.bl))) ⟨Same.new nD, upd_same⟩ (fun i H' _ h => sameK h.1) ?_ ?_
    · rintro i x H3 H4 hi ⟨ss, hD⟩ ⟨rfl, hx⟩
      obtain ⟨t, ht, rfl⟩ := map_get hx
      obtain ⟨p, hp, et0⟩ := Pd.get pu ht
      have et := ss _ _ et0
      refine ⟨t, _, rfl, SqT.hp et, rfl, _, _, rfl, _, _, rfl, rfl, rfl, ?_⟩
      refine ⟨_, rfl, _, rfl, _, _, rfl, rfl, _, rfl, ?_⟩
      refine ite2 (fun c => ?_) (fun c => ?_)
      · exact ⟨_, rfl, _, rfl, _, _, rfl, rfl, bl_step hp nD (by omega) ss hD (by rw [show decide (p.1 ≤ w.1) = true from c, Bool.true_and])⟩
      · exact bl_step hp nD (by omega) ss hD (by rw [show decide (p.1 ≤ w.1) = false from Bool.eq_false_iff.mpr c, Bool.false_and])
    · rintro H3 ⟨ss, hD⟩
      rw [List.length_map, pu.len, List.take_length] at hD
      refine ⟨D, _, rfl, SqL.hp hD, ?_⟩
      have e := q H3 (s1.trans ss)
      unfold covB at e
      rw [List.any_map]
      exact e
end
/-! _law_answer -/
abbrev s_l_answer : Stmt := topS 44
abbrev sc_l_answer_N : List Str := ["_law_term", "_law_spans_here", "_law_pair", "_law_word", "_law_k", "_law_one", "_law_other"]
theorem sc_l_answer : FnScope sc_l_answer_N ["_law_term", "_law_spans_here", "_law_pair", "_law_word"] (defScope s_l_answer) := ⟨rfl, rfl, rfl, by decide +kernel, rfl, by decide +kernel, by decide +kernel⟩
def sp_l_answer (K : PySem.W.Frag) : Sp := fun vs H Q _ => ∃ (t : Nat) (a : Addr) (v : V) (ts : List Addr) (ps : List Pr) (w : Pr) (z : Bool), vs = [termV t, .ref a, v, endsV z] ∧ t < 3 ∧ SqL K H a (ts.map V.ref) ∧ Pd H ts ps ∧ (∀ p ∈ ps, strP p = true) ∧ ps.length ≤ 200 ∧ (t = 2 ∨ ∃ u, v = .ref u ∧ SqT K H u [.int w.1, .int w.2]) ∧ ∀ H', Same H H' → Q (.bl (ansB t z ps w)) H'
section
variable {P : Program} {w : World} {K : PySem.W.Frag} {mg : Str → Option Value} {bh : Heap}
theorem ok_l_answer {f : Addr} {fd : FuncData} {f_l_meets : Addr} {fd_l_meets : FuncData} {f_l_pieces : Addr} {fd_l_pieces : FuncData} (B : Blt mg) (T : Txt K mg) (R_l_meets : Rdy P w K mg bh "_law_meets" 1 ["_law_pair", "_law_other", "_law_word"] (sp_l_meets K) f_l_meets fd_l_meets) (R_l_pieces : Rdy P w K mg bh "_law_pieces" 1 ["_law_spans_here", "_law_word"] (sp_l_pieces K) f_l_pieces fd_l_pieces) (F : Fun K "_law_answer" "_law_answer" s_l_answer f fd) : FnOk P w K mg bh CX0 2 f fd ["_law_term", "_law_spans_here", "_law_pair", "_law_word"] (sp_l_answer K) := by
  refine F.ok sc_l_answer (fun vs H Q E h => ?_) (fun cdv A outer s H vs Q E hr h => ?_)
  · obtain ⟨t, a, v, ts, ps, w, z, rfl, _⟩ := h
    rfl
  · obtain ⟨t, a, v, ts, ps, w, z, rfl, t3, sq, pd, hst, hlen, hw, q⟩ := h
    refine ⟨_, (pss_mid (ps_if (pt_cmpR op_eq (pv 0) pe_str (nomark _))
      (pss_one (ps_ret (pe_callB (cr_any rfl) (by rfl) B.b_any (by decide +kernel) (pa_cons (pe_lc (own := [("_law_one", 5)]) (by rfl) sc_l_answer.nd (pi_sq (pv 1)) (blkOk_by (own := [("_law_one", 5)]) (N := sc_l_answer_N) (sc := defScope s_l_answer) (by decide +kernel)) (fun _ _ _ _ _ => (pg_name (i := 5) sc_l_answer.nd rfl (Or.inl rfl))) (fun _ _ _ _ _ => pts_nil) (fun _ _ _ _ _ => (pe_rdy R_l_meets hr (by decide) (by rfl) (pa_cons (pv 5) (pa_cons (pv 2) (pa_cons (pv 3) pa_nil)))))) pa_nil))))
      pss_nil)
      (pss_mid (ps_if (pt_cmpR op_eq (pv 0) pe_str (nomark _))
      (pss_one (ps_ret (pe_callB (cr_any rfl) (by rfl) B.b_any (by decide +kernel) (pa_cons (pe_lc (own := [("_law_one", 5)]) (by rfl) sc_l_answer.nd (pi_sq (pe_rdy R_l_pieces hr (by decide) (by rfl) (pa_cons (pv 1) (pa_cons (pv 3) pa_nil)))) (blkOk_by (own := [("_law_one", 5)]) (N := sc_l_answer_N) (sc := defScope s_l_answer) (by decide +kernel)) (fun _ _ _ _ _ => (pg_name (i := 5) sc_l_answer.nd rfl (Or.inl rfl))) (fun _ _ _ _ _ => pts_nil) (fun _ _ _ _ _ => (pe_and (pe_cmpR op_le (pe_ix (ix_tupK (K := K)) (pv 5) pe_int (fun _ _ => rfl)) (pe_ix (ix_tupK (K := K)) (pv 2) pe_int (fun _ _ => rfl)) (nomark _)) (pe_one (pe_cmpR op_le (pe_ix (ix_tupK (K := K)) (pv 2) pe_int (fun _ _ => rfl)) (pe_ix (ix_tupK (K := K)) (pv 5) pe_int (fun _ _ => rfl)) (nomark _)))))) pa_nil))))
      pss_nil)
      (pss_cons (ps_for PassesOwn.never rfl (pi_range1 (by rfl) B.b_range (pa_cons (pe_callB call_len_seq (by rfl) B.b_len (by decide +kernel) (pa_cons (pv 1) pa_nil)) pa_nil)) (pg_name (i := 4) sc_l_answer.nd rfl (Or.inr rfl))
      (pss_one (ps_if (pt_val (pe_callB (cr_any rfl) (by rfl) B.b_any (by decide +kernel) (pa_cons (pe_lc (own := [("_law_other", 6)]) (by rfl) sc_l_answer.nd (pi_sq (pe_slice sl_list (pv 1) po_none (po_some (pv 4)))) (blkOk_by (own := [("_law_other", 6)]) (N := sc_l_answer_N) (sc := defScope s_l_answer) (by decide +kernel)) (fun _ _ _ _ _ => (pg_name (i := 6) sc_l_answer.nd rfl (Or.inl rfl))) (fun _ _ _ _ _ => pts_nil) (fun _ _ _ _ _ => (pe_rdy R_l_meets hr (by decide) (by rfl) (pa_cons (pe_ix (ix_listK (K := K)) (pv 1) (pv 4) (fun _ _ => rfl)) (pa_cons (pv 6) (pa_cons (pv 3) pa_nil)))))) pa_nil)))
      (pss_one (ps_ret pe_bl))
      pss_nil)))
      (pss_one (ps_ret pe_bl))))), ?_⟩
    have lts := pd.len
    refine ⟨fun σ H' => t ≠ 0 ∧ σ = [some (termV t), some (.ref a), some v, some (endsV z), none, none, none] ∧ H' = H, ?_, ?_⟩
    · refine ⟨_, rfl, term_scal t _, _, rfl, ?_⟩
      rw [term_0]
      refine ite2 (fun c0 => ?_) (fun c0 => ⟨fun h => c0 (decide_eq_true h), rfl, rfl⟩)
      obtain rfl := of_decide_eq_true c0
      obtain ⟨u, rfl, sw⟩ := hw.resolve_left (by decide)
      refine ⟨_, rfl, a, _, rfl, .inl sq, fun J wk D nD => ?_⟩
      refine lc_it wk (fun i H' => Same H H' ∧ H' D = some (.lst (((ps.take i).map fun p => meetB z p w).map V.bl))) ⟨Same.new nD, upd_same⟩ (fun i H' _ h => sameK h.1) ?_ ?_
      · rintro i x H3 H4 hi ⟨ss, hD⟩ ⟨rfl, hx⟩
        obtain ⟨t, ht, rfl⟩ := map_get hx
        obtain ⟨p, hp, et0⟩ := Pd.get pd ht
        have et := ss _ _ et0
        refine ⟨rfl, ?_⟩
        exact ⟨_, rfl, _, rfl, _, rfl, t, u, p, w, z, rfl, SqT.hp et, sameT ss sw, bl_step hp nD (by omega) ss hD rfl⟩
      · rintro H3 ⟨ss, hD⟩
        rw [List.length_map, lts, List.take_length] at hD
        refine ⟨D, _, rfl, SqL.hp hD, ?_⟩
        rw [any_bl]
        exact q H3 ss
    rintro σ H0 ⟨t0, rfl, rfl⟩
    refine ⟨fun σ H' => t = 2 ∧ σ = [some (termV t), some (.ref a), some v, some (endsV z), none, none, none] ∧ H' = H0, ?_, ?_⟩
    · refine ⟨_, rfl, term_scal t _, _, rfl, ?_⟩
      rw [term_1]
      refine ite2 (fun c0 => ?_) (fun c0 => ⟨by have : ¬ t = 1 := fun h => c0 (decide_eq_true h); omega, rfl, rfl⟩)
      obtain rfl := of_decide_eq_true c0
      obtain ⟨u, rfl, sw⟩ := hw.resolve_left (by decide)
      refine ⟨_, rfl, _, rfl, a, ts, ps, z, rfl, sq, pd, hst, hlen, fun r us H1 nr hr1 pu s1 => ?_⟩
      refine ⟨r, _, rfl, .inl (SqL.hp hr1), fun J wk D nD => ?_⟩
      have lu : (unionM z ps).length ≤ ps.length + 1 := union_len z ps
      have q' : ∀ H', Same H0 H' → Q (.bl (covB (unionM z ps) w)) H' := q
      generalize unionM z ps = L at *
      refine lc_it wk (fun i H' => Same H1 H' ∧ H' D = some (.lst (((L.take i).map fun p => decide (p.1 ≤ w.1) && decide (w.2 ≤ p.2)).map V.bl))) ⟨Same.new nD, upd_same⟩ (fun i H' _ h => sameK h.1) ?_ ?_
      · rintro i x H3 H4 hi ⟨ss, hD⟩ ⟨rfl, hx⟩
        obtain ⟨t, ht, rfl⟩ := map_get hx
        obtain ⟨p, hp, et0⟩ := Pd.get pu ht
        have et := ss _ _ et0
        have sw4 := sameT (s1.trans ss) sw
        refine ⟨rfl, ?_⟩
        refine ⟨_, rfl, t, _, 0, _, rfl, rfl, SqT.hp et, rfl, _, rfl, u, _, 0, _, rfl, rfl, sw4, rfl, _, _, rfl, rfl, _, rfl, ?_⟩
        refine ite2 (fun c => ?_) (fun c => ?_)
        · exact ⟨_, rfl, u, _, 1, _, rfl, rfl, sw4, rfl, _, rfl, t, _, 1, _, rfl, rfl, SqT.hp et, rfl, _, _, rfl, rfl, bl_step hp nD (by omega) ss hD (by rw [show decide (p.1 ≤ w.1) = true from c, Bool.true_and])⟩
        · exact bl_step hp nD (by omega) ss hD (by rw [show decide (p.1 ≤ w.1) = false from Bool.eq_false_iff.mpr c, Bool.false_and])
      · rintro H3 ⟨ss, hD⟩
        rw [List.length_map, pu.len, List.take_length] at hD
        refine ⟨D, _, rfl, SqL.hp hD, ?_⟩
        rw [any_bl]
        exact q' H3 (s1.trans ss)
    rintro σ H0 ⟨rfl, rfl, rfl⟩
    have q' : ∀ H', Same H0 H' → Q (.bl (clashB z ps)) H' := q
    obtain ⟨N, eN⟩ : ∃ N : Int, ((ts.map V.ref).length : Int) = N := ⟨_, rfl⟩
    have hN : N = (ps.length : Int) := by rw [← eN, List.length_map, lts]
    refine ⟨_, rfl, a, _, rfl, .inl sq, N, by rw [← eN], by omega, by omega, ?_⟩
    refine for_range (lo := 0) (n := N.toNat) (fun i σ H' => (∃ y, σ = [some (termV 2), some (.ref a), some v, some (endsV z), y, none, none]) ∧ Same H0 H' ∧ Apart z (ps.take i)) ⟨⟨none, rfl⟩, Same.refl _, by rw [List.take_zero]; exact .nil⟩ ?_ ?_
    · rintro i σ H1 hi' ⟨⟨y, rfl⟩, s1, ap⟩
      have hi : i < ps.length := by omega
      have hp : ps[i]? = some ps[i] := List.getElem?_eq_getElem hi
      have hti : i < ts.length := by omega
      have ht : ts[i]? = some ts[i] := List.getElem?_eq_getElem hti
      obtain ⟨p', hp', et0⟩ := Pd.get pd ht
      obtain rfl := Option.some.inj (hp.symm.trans hp')
      have tk := apart_take (z := z) hp
      generalize ps[i] = p at *
      generalize ts[i] = t at *
      refine ⟨_, rfl, _, rfl, _, rfl, a, _, rfl, s1.seq sq, fun C nC => ?_⟩
      have sC := Same.new (o := .lst (cutV (ts.map V.ref) none (some (0 + (i : Int))))) nC
      have ec : cutV (ts.map V.ref) none (some (0 + (i : Int))) = (ts.take i).map V.ref := cut_to (by omega)
      refine ⟨C, (ts.take i).map V.ref, rfl, .inl (SqL.hp (by rw [upd_same, ec])), fun J wk D nD => ?_⟩
      refine lc_it wk (fun j H' => Same (upd H1 C (.lst (cutV (ts.map V.ref) none (some (0 + (i : Int)))))) H' ∧ H' D = some (.lst ((((ps.take i).take j).map fun q => meetB z p q).map V.bl))) ⟨Same.new nD, upd_same⟩ (fun j H' _ h => sameK h.1) ?_ ?_
      · rintro j x H3 H4 hj ⟨ss, hD⟩ ⟨rfl, hx⟩
        obtain ⟨u, hu, rfl⟩ := map_get hx
        obtain ⟨q, hq, eu0⟩ := Pd.get (pd.take i) hu
        have s4 := (s1.trans sC).trans ss
        have hl : (ps.take i).length ≤ ps.length := List.length_take_le' ..
        refine ⟨rfl, ?_⟩
        exact ⟨_, rfl, _, rfl, a, _, _, _, rfl, rfl, s4.seq sq, at_ref (by omega) ht, _, rfl, _, rfl, t, u, p, q, z, rfl, SqT.hp (s4 _ _ et0), SqT.hp (s4 _ _ eu0), bl_step hq nD (by omega) ss hD rfl⟩
      · rintro H3 ⟨ss, hD⟩
        have el : ((ts.take i).map V.ref).length = (ps.take i).length := by rw [List.length_map, List.length_take, List.length_take, lts]
        rw [el, List.take_length] at hD
        have s4 := (s1.trans sC).trans ss
        refine ⟨D, _, rfl, SqL.hp hD, _, rfl, ?_⟩
        rw [any_bl]
        refine ite2 (fun c => ?_) (fun c => ?_)
        · have e := q' H3 s4
          have no : ¬ Apart z ps := fun h => by
            have h2 := tk.mp (h.sublist (List.take_sublist ..))
            rw [h2.2] at c
            cases c
          unfold clashB at e
          rw [decide_eq_false no] at e
          exact e
        · exact ⟨⟨_, rfl⟩, s4, tk.mpr ⟨ap, Bool.eq_false_iff.mpr c⟩⟩
    · rintro σ H1 ⟨⟨y, rfl⟩, s1, ap⟩
      rw [List.take_of_length_le (by omega)] at ap
      have e := q' H1 s1
      unfold clashB at e
      rw [decide_eq_true ap] at e
      exact e
end
/-! Answer.__init__ -/
abbrev s_Answer_init : Stmt := inClass (topS 33) 0
abbrev sc_Answer_init_N : List Str := ["self", "what", "ends"]
theorem sc_Answer_init : FnScope sc_Answer_init_N ["self", "what", "ends"] (defScope s_Answer_init) := ⟨rfl, rfl, rfl, by decide +kernel, rfl, by decide +kernel, by decide +kernel⟩
def sp_Answer_init (K : PySem.W.Frag) (C : Addr) : Sp := fun vs H Q _ => ∃ (a dx : Addr) (t : Nat) (z : Bool), vs = [.ref a, termV t, endsV z] ∧ t < 3 ∧ H a = some (.ins C dx []) ∧ ∀ H', Kp a H H' → H' a = some (.ins C dx (ansFs t z)) → Q .non H'
section
variable {P : Program} {w : World} {K : PySem.W.Frag} {mg : Str → Option Value} {bh : Heap}
theorem ok_Answer_init {f : Addr} {fd : FuncData} {C : Addr} {f_check_word : Addr} {fd_check_word : FuncData} {f_check_ends : Addr} {fd_check_ends : FuncData} (B : Blt mg) (T : Txt K mg) (AC : AnsC K C) (AW : WordsT K mg "ANSWERS" [.str "busy", .str "covered", .str "clash"]) (R_check_word : Rdy P w K mg bh "check_word" 1 ["word", "words"] (sp_check_word K) f_check_word fd_check_word) (R_check_ends : Rdy P w K mg bh "check_ends" 1 ["ends"] (sp_check_ends K) f_check_ends fd_check_ends) (F : FunD K "__init__" "Answer.__init__" (defArgs s_Answer_init) (defBody s_Answer_init) (defScope s_Answer_init) [] [("ends", .str "half")] f fd) : FnOk P w K mg bh CX0 2 f fd ["self", "what", "ends"] (sp_Answer_init K C) := by
  refine okDK F sc_Answer_init (fun vs H Q E h => ?_) (fun cdv A outer s H vs Q E hr h => ?_)
  · obtain ⟨a, dx, t, z, rfl, _⟩ := h
    rfl
  · obtain ⟨a, dx, t, z, rfl, t3, ha, q⟩ := h
    refine ⟨_, (pss_cons (ps_expr (pe_rdy R_check_word hr (by decide) (by rfl) (pa_cons (pv 1) (pa_cons (pe_words' AW (by rfl)) pa_nil))))
      (pss_cons (ps_expr (pe_rdy R_check_ends hr (by decide) (by rfl) (pa_cons (pv 2) pa_nil)))
      (pss_cons (ps_fld (pv 0) (pv 1) rfl)
      (pss_one (ps_fld (pv 0) (pv 2) rfl))))), ?_⟩
    have hf : flatV (termV t) = true ∧ inV (termV t) [.str "busy", .str "covered", .str "clash"] = true := by
      have : t = 0 ∨ t = 1 ∨ t = 2 := by omega
      rcases this with rfl | rfl | rfl <;> decide +kernel
    refine ⟨_, rfl, fun A hA => ⟨_, A, _, rfl, hA, hf.1, by decide +kernel, hf.2, ?_⟩⟩
    refine ⟨_, rfl, z, rfl, fun H1 s1 => ?_⟩
    have h1 := s1 _ _ ha
    refine ⟨_, rfl, _, rfl, a, C, dx, _, rfl, h1, AC.cl, AC.nW, (by show 0 < 1000; decide), ?_⟩
    refine ⟨_, rfl, _, rfl, a, C, dx, _, rfl, upd_same, AC.cl, AC.nE, (by show 1 < 1000; decide), ?_⟩
    refine q _ ?_ (by rw [upd_same, ans_put])
    intro b o hb e
    rw [upd_ne hb, upd_ne hb]
    exact s1 _ _ e
end
/-! Answer.uses_window -/
abbrev s_Answer_uses_window : Stmt := inClass (topS 33) 1
abbrev sc_Answer_uses_window_N : List Str := ["self"]
theorem sc_Answer_uses_window : FnScope sc_Answer_uses_window_N ["self"] (defScope s_Answer_uses_window) := ⟨rfl, rfl, rfl, by decide +kernel, rfl, by decide +kernel, by decide +kernel⟩
def sp_Answer_uses (K : PySem.W.Frag) (C : Addr) : Sp := fun vs H Q _ => ∃ (a : Addr) (t : Nat) (z : Bool), vs = [.ref a] ∧ t < 3 ∧ IsAns H a C t z ∧ ∀ H', Same H H' → Q (.bl (decide (t < 2))) H'
section
variable {P : Program} {w : World} {K : PySem.W.Frag} {mg : Str → Option Value} {bh : Heap}
theorem ok_Answer_uses_window {f : Addr} {fd : FuncData} {C : Addr} (B : Blt mg) (T : Txt K mg) (AC : AnsC K C) (F : Fun K "uses_window" "Answer.uses_window" s_Answer_uses_window f fd) : FnOk P w K mg bh CX0 2 f fd ["self"] (sp_Answer_uses K C) := by
  refine F.ok sc_Answer_uses_window (fun vs H Q E h => ?_) (fun cdv A outer s H vs Q E hr h => ?_)
  · obtain ⟨a, t, z, rfl, _⟩ := h
    rfl
  · obtain ⟨a, t, z, rfl, t3, ⟨dx, ha⟩, q⟩ := h
    refine ⟨_, (pss_one (ps_ret (pe_cmpR op_in_seq (pe_fld (pv 0) rfl) (pe_tup (pa_cons pe_str (pa_cons pe_str pa_nil))) (by rfl)))), ?_⟩
    refine ⟨_, rfl, a, C, dx, _, _, rfl, ha, AC.cl, AC.nW, ans_what t z, (by show 2 ≤ sizeLine; decide), fun T nT => ?_⟩
    have e : flatV (termV t) = true ∧ inV (termV t) [.str "busy", .str "covered"] = decide (t < 2) := by
      have : t = 0 ∨ t = 1 ∨ t = 2 := by omega
      rcases this with rfl | rfl | rfl <;> decide +kernel
    refine ⟨T, _, rfl, .inr (SqT.hp upd_same), e.1, (by decide +kernel), ?_⟩
    have e2 := q _ (Same.new (o := .tup [.str "busy", .str "covered"]) nT)
    rw [← e.2] at e2
    exact e2
end
/-! check_need -/
abbrev s_check_need : Stmt := topS 32
abbrev sc_check_need_N : List Str := ["wish", "window"]
theorem sc_check_need : FnScope sc_check_need_N ["wish", "window"] (defScope s_check_need) := ⟨rfl, rfl, rfl, by decide +kernel, rfl, by decide +kernel, by decide +kernel⟩
def sp_check_need (K : PySem.W.Frag) (C : Addr) : Sp := fun vs H Q _ => ∃ (a : Addr) (t : Nat) (z : Bool) (v : V), vs = [.ref a, v] ∧ t < 3 ∧ IsAns H a C t z ∧ ((v = .non ∧ t = 2) ∨ ∃ u, v = .ref u) ∧ ∀ H', Same H H' → Q .non H'
section
variable {P : Program} {w : World} {K : PySem.W.Frag} {mg : Str → Option Value} {bh : Heap}
theorem ok_check_need {f : Addr} {fd : FuncData} {C : Addr} {p_uses f_uses : Addr} {fd_uses : FuncData} (B : Blt mg) (T : Txt K mg) (AC : AnsC K C) (RU : RdyPr P w K mg bh C "uses_window" 2 (sp_Answer_uses K C) p_uses f_uses fd_uses) (F : Fun K "check_need" "check_need" s_check_need f fd) : FnOk P w K mg bh CX0 4 f fd ["wish", "window"] (sp_check_need K C) := by
  refine F.ok sc_check_need (fun vs H Q E h => ?_) (fun cdv A outer s H vs Q E hr h => ?_)
  · obtain ⟨a, t, z, v, rfl, _⟩ := h
    rfl
  · obtain ⟨a, t, z, v, rfl, t3, ⟨dx, ha⟩, hv, q⟩ := h
    refine ⟨_, (pss_one (ps_if (PW.pt (pw_and (pt_cmpR op_isN (pv 1) pe_non (nomark _)) (pw_and1 (pt_val (pe_prop (pv 0) AC.cl RU.pr RU.ok (hr.mono (by decide)) RU.bd .nil pass0 (by rfl))))))
      (pss_one ps_never)
      pss_nil)), ?_⟩
    rcases hv with ⟨rfl, rfl⟩ | ⟨u, rfl⟩
    · refine ⟨_, rfl, rfl, _, rfl, iteT ?_⟩
      refine ⟨_, rfl, a, dx, _, rfl, ha, a, 2, z, rfl, t3, ⟨dx, ha⟩, fun H' s' => ⟨_, rfl, iteF (q H' s')⟩⟩
    · exact ⟨_, rfl, rfl, _, rfl, iteF (q H (Same.refl H))⟩
end
/-! Answer.wished -/
abbrev s_Answer_wished : Stmt := inClass (topS 33) 5
abbrev sc_Answer_wished_N : List Str := ["self", "spans", "window", "span"]
theorem sc_Answer_wished : FnScope sc_Answer_wished_N ["self", "spans", "window"] (defScope s_Answer_wished) := ⟨rfl, rfl, rfl, by decide +kernel, rfl, by decide +kernel, by decide +kernel⟩
def sp_Answer_wished (K : PySem.W.Frag) (C : Addr) : Sp := fun vs H Q _ => ∃ (o a : Addr) (v : V) (t : Nat) (ts : List Addr) (ps : List Pr) (w : Pr) (z : Bool), vs = [.ref o, .ref a, v] ∧ t < 3 ∧ IsAns H o C t z ∧ Sq K H a (ts.map V.ref) ∧ Pd H ts ps ∧ (∀ p ∈ ps, strP p = true) ∧ ps.length ≤ 1000 ∧ ((v = .non ∧ t = 2) ∨ ∃ u, v = .ref u ∧ SqT K H u [.int w.1, .int w.2] ∧ winP w = true) ∧ ∀ H', Same H H' → Q (.bl (ansB t z ps w)) H'
section
variable {P : Program} {w : World} {K : PySem.W.Frag} {mg : Str → Option Value} {bh : Heap}
theorem ok_Answer_wished {f : Addr} {fd : FuncData} {C : Addr} {f_check_stretches : Addr} {fd_check_stretches : FuncData} {f_check_window : Addr} {fd_check_window : FuncData} {f_check_need : Addr} {fd_check_need : FuncData} {f_has_clash : Addr} {fd_has_clash : FuncData} {f_has_cover : Addr} {fd_has_cover : FuncData} {f_touches : Addr} {fd_touches : FuncData} (B : Blt mg) (T : Txt K mg) (AC : AnsC K C) (R_check_stretches : Rdy P w K mg bh "check_stretches" 5 ["spans"] (sp_check_stretches K) f_check_stretches fd_check_stretches) (R_check_window : Rdy P w K mg bh "check_window" 5 ["window"] (sp_check_window K) f_check_window fd_check_window) (R_check_need : Rdy P w K mg bh "check_need" 4 ["wish", "window"] (sp_check_need K C) f_check_need fd_check_need) (R_has_clash : Rdy P w K mg bh "has_clash" 3 ["spans", "ends"] (sp_has_clash K) f_has_clash fd_has_clash) (R_has_cover : Rdy P w K mg bh "has_cover" 7 ["spans", "window", "ends"] (sp_has_cover K) f_has_cover fd_has_cover) (R_touches : Rdy P w K mg bh "touches" 3 ["span", "window", "ends"] (sp_touches K) f_touches fd_touches) (F : FunD K "wished" "Answer.wished" (defArgs s_Answer_wished) (defBody s_Answer_wished) (defScope s_Answer_wished) [.non] [] f fd) : FnOk P w K mg bh CX0 8 f fd ["self", "spans", "window"] (sp_Answer_wished K C) := by
  refine okD F sc_Answer_wished (fun vs H Q E h => ?_) (fun cdv A outer s H vs Q E hr h => ?_)
  · obtain ⟨o, a, v, t, ts, ps, w, z, rfl, _⟩ := h
    rfl
  · obtain ⟨o, a, v, t, ts, ps, w, z, rfl, t3, ia, sq, pd, hst, hlen, hv, q⟩ := h
    refine ⟨_, (pss_cons (ps_expr (pe_rdy R_check_stretches hr (by decide) (by rfl) (pa_cons (pv 1) pa_nil)))
      (pss_cons (ps_expr (pe_rdy R_check_window hr (by decide) (by rfl) (pa_cons (pv 2) pa_nil)))
      (pss_cons (ps_expr (pe_rdy R_check_need hr (by decide) (by rfl) (pa_cons (pv 0) (pa_cons (pv 2) pa_nil))))
      (pss_mid (ps_if (pt_cmpR op_eq (pe_fld (pv 0) rfl) pe_str (nomark _))
      (pss_one (ps_ret (pe_callB (cr_any rfl) (by rfl) B.b_any (by decide +kernel) (pa_cons (pe_lc (own := [("span", 3)]) (by rfl) sc_Answer_wished.nd (pi_sq (pv 1)) (blkOk_by (own := [("span", 3)]) (N := sc_Answer_wished_N) (sc := defScope s_Answer_wished) (by decide +kernel)) (fun _ _ _ _ _ => (pg_name (i := 3) sc_Answer_wished.nd rfl (Or.inl rfl))) (fun _ _ _ _ _ => pts_nil) (fun _ _ _ _ _ => (pe_rdy R_touches hr (by decide) (by rfl) (pa_cons (pv 3) (pa_cons (pv 2) (pa_cons (pe_fldK (K := K) (pv 0)) pa_nil)))))) pa_nil))))
      pss_nil)
      (pss_mid (ps_if (pt_cmpR op_eq (pe_fld (pv 0) rfl) pe_str (nomark _))
      (pss_one (ps_ret (pe_rdy R_has_cover hr (by decide) (by rfl) (pa_cons (pv 1) (pa_cons (pv 2) (pa_cons (pe_fldK (K := K) (pv 0)) pa_nil))))))
      pss_nil)
      (pss_one (ps_ret (pe_rdy R_has_clash hr (by decide) (by rfl) (pa_cons (pv 1) (pa_cons (pe_fldK (K := K) (pv 0)) pa_nil)))))))))), ?_⟩
    have lts := pd.len
    refine ⟨_, rfl, a, _, _, rfl, sq, pd.dp, ?_, fun H1 s1 => ?_⟩
    · intro d hd
      obtain ⟨p, hp, rfl⟩ := List.mem_map.mp hd
      exact hst p hp
    refine ⟨_, rfl, v, rfl, ?_, fun H2 s2 => ?_⟩
    · rcases hv with ⟨rfl, _⟩ | ⟨u, rfl, sw, hw⟩
      · exact .inl rfl
      · exact .inr ⟨u, w, rfl, sameT s1 sw, hw⟩
    have s12 := s1.trans s2
    refine ⟨_, rfl, _, rfl, o, t, z, v, rfl, t3, ia.same s12, ?_, fun H3 s3 => ?_⟩
    · rcases hv with ⟨rfl, h2⟩ | ⟨u, rfl, sw, hw⟩
      · exact .inl ⟨rfl, h2⟩
      · exact .inr ⟨u, rfl⟩
    have s13 := s12.trans s3
    obtain ⟨dx, ho⟩ := ia.same s13
    have sq3 := sameQ s13 sq
    have pd3 := pd.same s13
    refine ⟨fun σ H' => t ≠ 0 ∧ σ = [some (.ref o), some (.ref a), some v, none] ∧ H' = H3, ?_, ?_⟩
    · refine ⟨_, rfl, o, C, dx, _, _, rfl, ho, AC.cl, AC.nW, ans_what t z, term_scal t _, _, rfl, ?_⟩
      rw [term_0]
      refine ite2 (fun c0 => ?_) (fun c0 => ⟨fun h => c0 (decide_eq_true h), rfl, rfl⟩)
      obtain rfl := of_decide_eq_true c0
      obtain ⟨u, rfl, sw, hw⟩ := hv.resolve_left (fun h => by cases h.2)
      refine ⟨_, rfl, a, _, rfl, sq3, fun J wk D nD => ?_⟩
      have qb : ∀ H', Same H3 H' → Q (.bl (busyB z ps w)) H' := fun H' s' => q H' (s13.trans s')
      refine lc_it wk (fun i H' => Same H3 H' ∧ H' D = some (.lst (((ps.take i).map fun p => meetB z p w).map V.bl))) ⟨Same.new nD, upd_same⟩ (fun i H' _ h => sameK h.1) ?_ ?_
      · rintro i x H4 H5 hi ⟨ss, hD⟩ ⟨rfl, hx⟩
        obtain ⟨t, ht, rfl⟩ := map_get hx
        obtain ⟨p, hp, et0⟩ := Pd.get pd3 ht
        have et := ss _ _ et0
        refine ⟨rfl, ?_⟩
        refine ⟨_, rfl, _, rfl, _, rfl, o, C, dx, _, _, rfl, ss _ _ ho, AC.cl, AC.nE, ans_ends 0 z, t, u, p, w, z, rfl, SqT.hp et, sameT (s13.trans ss) sw, fun H6 s6 => ?_⟩
        exact bl_step hp nD (by omega) (ss.trans s6) (s6 _ _ hD) rfl
      · rintro H4 ⟨ss, hD⟩
        rw [List.length_map, lts, List.take_length] at hD
        refine ⟨D, _, rfl, SqL.hp hD, ?_⟩
        rw [any_bl]
        exact qb H4 ss
    rintro σ H0 ⟨t0, rfl, rfl⟩
    refine ⟨fun σ H' => t = 2 ∧ σ = [some (.ref o), some (.ref a), some v, none] ∧ H' = H0, ?_, ?_⟩
    · refine ⟨_, rfl, o, C, dx, _, _, rfl, ho, AC.cl, AC.nW, ans_what t z, term_scal t _, _, rfl, ?_⟩
      rw [term_1]
      refine ite2 (fun c0 => ?_) (fun c0 => ⟨by have : ¬ t = 1 := fun h => c0 (decide_eq_true h); omega, rfl, rfl⟩)
      obtain rfl := of_decide_eq_true c0
      obtain ⟨u, rfl, sw, hw⟩ := hv.resolve_left (fun h => by cases h.2)
      exact ⟨_, rfl, _, rfl, _, rfl, o, C, dx, _, _, rfl, ho, AC.cl, AC.nE, ans_ends 1 z, a, u, ts, ps, w, z, rfl, sq3, pd3, hst, hlen, sameT s13 sw, fun H' s' => q H' (s13.trans s')⟩
    rintro σ H0 ⟨rfl, rfl, rfl⟩
    exact ⟨_, rfl, _, rfl, o, C, dx, _, _, rfl, ho, AC.cl, AC.nE, ans_ends 2 z, a, ts, ps, z, rfl, sq3, pd3, hst, hlen, fun H' s' => q H' (s13.trans s')⟩
end
/-! law -/
abbrev s_law : Stmt := topS 46
abbrev sc_law_N : List Str := ["_law_script", "_law_at", "_law_bag_here", "_law_spans_here", "_law_now", "_law_turn", "_law_then", "_law_pair", "_law_kept", "_law_turned", "_law_word", "_law_term", "_law_wish", "_law_due", "_law_told"]
theorem sc_law : FnScope sc_law_N ["_law_script"] (defScope s_law) := ⟨rfl, rfl, rfl, by decide +kernel, rfl, by decide +kernel, by decide +kernel⟩
def sp_law (K : PySem.W.Frag) : Sp := fun vs H Q _ => ∃ (a : Addr) (ns : List Int), vs = [.ref a] ∧ SqL K H a (ns.map V.int) ∧ ns.length ≤ 63 ∧ ∀ H', Q (.bl true) H'
section
variable {P : Program} {w : World} {K : PySem.W.Frag} {mg : Str → Option Value} {bh : Heap}
theorem ok_law {f : Addr} {fd : FuncData} {C : Addr} {f_init f_w : Addr} {fd_init fd_w : FuncData} {f_l_bag : Addr} {fd_l_bag : FuncData} {f_l_spans : Addr} {fd_l_spans : FuncData} {f_l_window : Addr} {fd_l_window : FuncData} {f_l_take : Addr} {fd_l_take : FuncData} {f_l_answer : Addr} {fd_l_answer : FuncData} (B : Blt mg) (T : Txt K mg) (AC : AnsC K C) (MA : RdyMk P w K mg bh "Answer" C 2 ["self", "what", "ends"] [.str "half"] (sp_Answer_init K C) f_init fd_init) (MW : RdyMt P w K mg bh C "wished" 8 ["self", "spans", "window"] [.non] (sp_Answer_wished K C) f_w fd_w) (R_l_bag : Rdy P w K mg bh "_law_bag" 1 ["_law_script", "_law_at"] (sp_l_bag K) f_l_bag fd_l_bag) (R_l_spans : Rdy P w K mg bh "_law_spans" 5 ["_law_bag_here", "_law_most", "_law_near"] (sp_l_spans K) f_l_spans fd_l_spans) (R_l_window : Rdy P w K mg bh "_law_window" 3 ["_law_bag_here", "_law_near"] (sp_l_window K) f_l_window fd_l_window) (R_l_take : Rdy P w K mg bh "_law_take" 1 ["_law_bag_here", "_law_many"] (sp_l_take K) f_l_take fd_l_take) (R_l_answer : Rdy P w K mg bh "_law_answer" 2 ["_law_term", "_law_spans_here", "_law_pair", "_law_word"] (sp_l_answer K) f_l_answer fd_l_answer) (F : Fun K "law" "law" s_law f fd) : FnG P w K mg bh 12 f fd ["_law_script"] (sp_law K) := by
  refine Fun.okG F sc_law (fun vs H Q E h => ?_) (fun cdv A outer s H vs Q E gd hr h => ?_)
  · obtain ⟨a, ns, rfl, _⟩ := h
    rfl
  · obtain ⟨a, ns, rfl, hS, hn, q⟩ := h
    obtain ⟨gA, kbA⟩ := MA.kb
    obtain ⟨dsA, hvA, bdA⟩ := MA.bd1
    obtain ⟨dsW, hvW, bdW⟩ := MW.bd1
    refine ⟨_, (pss_cons (ps_for PassesOwn.never rfl (pi_range1 (by rfl) B.b_range (pa_cons (pe_callB (call_max2 rfl) (by rfl) B.b_max (by decide +kernel) (pa_cons pe_int (pa_cons (pe_callB (call_min2 rfl) (by rfl) B.b_min (by decide +kernel) (pa_cons pe_int (pa_cons (pe_callB call_len_seq (by rfl) B.b_len (by decide +kernel) (pa_cons (pv 0) pa_nil)) pa_nil))) pa_nil))) pa_nil)) (pg_name (i := 1) sc_law.nd rfl (Or.inl rfl))
      (pss_cons (ps_set (i := 2) sc_law.nd rfl (Or.inl rfl) (pe_rdy R_l_bag hr (by decide) (by rfl) (pa_cons (pv 0) (pa_cons (pv 1) pa_nil))))
      (pss_cons (ps_set (i := 3) sc_law.nd rfl (Or.inl rfl) (pe_rdy R_l_spans hr (by decide) (by rfl) (pa_cons (pv 2) (pa_cons pe_int (pa_cons (pe_op op_add pe_int (pe_rdy R_l_take hr (by decide) (by rfl) (pa_cons (pv 2) (pa_cons pe_int pa_nil)))) pa_nil)))))
      (pss_mid (ps_if (pt_cmpR op_eq (pe_rdy R_l_take hr (by decide) (by rfl) (pa_cons (pv 2) (pa_cons pe_int pa_nil))) pe_int (nomark _))
      (pss_cons (ps_par (i := 4) (j := 3) (by rfl) sc_law.nd rfl rfl (by decide) rfl rfl (pa_cons (pe_rdy R_l_take hr (by decide) (by rfl) (pa_cons (pv 2) (pa_cons pe_int pa_nil))) (pa_cons (pe_lst pa_nil) pa_nil)) (by rfl))
      (pss_one (ps_for PassesOwn.never rfl (pi_range1 (by rfl) B.b_range (pa_cons (pe_rdy R_l_take hr (by decide) (by rfl) (pa_cons (pv 2) (pa_cons pe_int pa_nil))) pa_nil)) (pg_name (i := 5) sc_law.nd rfl (Or.inl rfl))
      (pss_cons (ps_set (i := 6) sc_law.nd rfl (Or.inl rfl) (pe_op op_add (pv 4) (pe_rdy R_l_take hr (by decide) (by rfl) (pa_cons (pv 2) (pa_cons pe_int pa_nil)))))
      (pss_cons (ps_expr (pe_bm PySem.F.plainAttrs_list PySem.F.slot_list_append PySem.F.type_list_append mt_append (pv 3) (pa_cons (pe_tup (pa_cons (pv 4) (pa_cons (pv 6) pa_nil))) pa_nil)))
      (pss_one (ps_set (i := 4) sc_law.nd rfl (Or.inl rfl) (pe_op op_add (pv 6) (pe_callTy call_int1 (by rfl) B.b_int (by decide +kernel) (pa_cons (pe_cmpR op_eq (pe_rdy R_l_take hr (by decide) (by rfl) (pa_cons (pv 2) (pa_cons pe_int pa_nil))) pe_int (nomark _)) pa_nil))))))))))
      pss_nil)
      (pss_cons (ps_set (i := 7) sc_law.nd rfl (Or.inl rfl) (pe_rdy R_l_window hr (by decide) (by rfl) (pa_cons (pv 2) (pa_cons pe_int pa_nil))))
      (pss_mid (ps_par (i := 8) (j := 9) (by rfl) sc_law.nd rfl rfl (by decide) rfl rfl (pa_cons (pe_callTy call_list_of (by rfl) B.b_list (by decide +kernel) (pa_cons (pv 3) pa_nil)) (pa_cons (pe_op op_cat (pe_slice sl_list (pv 3) (po_some (pe_rdy R_l_take hr (by decide) (by rfl) (pa_cons (pv 2) (pa_cons (pe_op op_add (pe_callB call_len_seq (by rfl) B.b_len (by decide +kernel) (pa_cons (pv 3) pa_nil)) pe_int) pa_nil)))) po_none) (pe_slice sl_list (pv 3) po_none (po_some (pe_rdy R_l_take hr (by decide) (by rfl) (pa_cons (pv 2) (pa_cons (pe_op op_add (pe_callB call_len_seq (by rfl) B.b_len (by decide +kernel) (pa_cons (pv 3) pa_nil)) pe_int) pa_nil)))))) pa_nil)) (by rfl))
      (pss_cons (ps_for PassesOwn.never rfl (pi_list (pe_lst (pa_cons pe_str (pa_cons pe_str pa_nil)))) (pg_name (i := 10) sc_law.nd rfl (Or.inl rfl))
      (pss_cons (ps_for PassesOwn.never rfl (pi_list (pe_lst (pa_cons pe_str (pa_cons pe_str (pa_cons pe_str pa_nil))))) (pg_name (i := 11) sc_law.nd rfl (Or.inl rfl))
      (pss_cons (ps_set (i := 12) sc_law.nd rfl (Or.inl rfl) (pe_makeK MA.mkr MA.ok (hr.mono (by decide)) (by rfl) MA.gl kbA pass0 (pa_cons (pv 11) pa_nil) (pk_cons (pv 10) pk_nil)))
      (pss_cons (ps_set (i := 13) sc_law.nd rfl (Or.inl rfl) (pe_rdy R_l_answer hr (by decide) (by rfl) (pa_cons (pv 11) (pa_cons (pv 3) (pa_cons (pv 7) (pa_cons (pv 10) pa_nil))))))
      (pss_cons (ps_set (i := 14) sc_law.nd rfl (Or.inl rfl) (pe_meth (pv 12) AC.cl MW.mt MW.ok (hr.mono (by decide)) MW.bd .nil pass0 (pa_cons (pv 3) (pa_cons (pv 7) pa_nil))))
      (pss_cons (ps_if (PW.pt (pw_or (pt_cmpR op_notIn_seq (pv 14) (pe_lst (pa_cons pe_bl (pa_cons pe_bl pa_nil))) (by rfl)) (pw_or (pt_not (pt_val (pe_callB call_isi (by rfl) B.b_isinstance (by decide +kernel) (pa_cons (pv 14) (pa_cons (pe_bltn (v := .ty "bool") (by rfl) B.b_bool (by decide +kernel) rfl) pa_nil))))) (pw_or (pt_cmpR op_ne (pv 14) (pv 13) (nomark _)) (pw_or1 (pt_cmpR (op_neD hr.units) (pv 3) (pv 8) (nomark _)))))))
      (pss_one (ps_ret pe_bl))
      pss_nil)
      (pss_cons (ps_if (PW.pt (pw_or (pt_cmpR op_ne (pe_meth (pv 12) AC.cl MW.mt MW.ok (hr.mono (by decide)) MW.bd .nil pass0 (pa_cons (pe_callTy call_tuple_of (by rfl) B.b_tuple (by decide +kernel) (pa_cons (pe_rev (pv 3)) pa_nil)) (pa_cons (pv 7) pa_nil))) (pv 13) (nomark _)) (pw_or1 (pt_cmpR op_ne (pe_meth (pv 12) AC.cl MW.mt MW.ok (hr.mono (by decide)) MW.bd .nil pass0 (pa_cons (pv 9) (pa_cons (pv 7) pa_nil))) (pe_rdy R_l_answer hr (by decide) (by rfl) (pa_cons (pv 11) (pa_cons (pv 9) (pa_cons (pv 7) (pa_cons (pv 10) pa_nil))))) (nomark _)))))
      (pss_one (ps_ret pe_bl))
      pss_nil)
      (pss_one (ps_if (PW.pt (pw_or (pt_cmpR op_isnot_bl (pe_meth (pv 12) AC.cl MW.mt MW.ok (hr.mono (by decide)) MW.bd .nil pass0 (pa_cons (pe_lst pa_nil) (pa_cons (pv 7) pa_nil))) pe_bl (nomark _)) (pw_or1 (pt_cmpR op_ne (pe_meth (pv 12) AC.cl MW.mt MW.ok (hr.mono (by decide)) MW.bd .nil pass0 (pa_cons (pv 3) (pa_cons (pv 7) pa_nil))) (pv 13) (nomark _)))))
      (pss_one (ps_ret pe_bl))
      pss_nil))))))))
      (pss_one (ps_if (pt_cmpR op_ne (pe_meth (pe_makeK MA.mkr MA.ok (hr.mono (by decide)) (by rfl) MA.gl kbA pass0 (pa_cons pe_str pa_nil) (pk_cons (pv 10) pk_nil)) AC.cl MW.mt MW.ok (hr.mono (by decide)) bdW hvW pass0 (pa_cons (pv 3) pa_nil)) (pe_rdy R_l_answer hr (by decide) (by rfl) (pa_cons pe_str (pa_cons (pv 3) (pa_cons pe_non (pa_cons (pv 10) pa_nil))))) (nomark _))
      (pss_one (ps_ret pe_bl))
      pss_nil))))
      (pss_one (ps_if (pt_cmpR op_ne (pe_meth (pe_make MA.mkr MA.ok (hr.mono (by decide)) (by rfl) MA.gl bdA hvA pass0 (pa_cons pe_str pa_nil)) AC.cl MW.mt MW.ok (hr.mono (by decide)) MW.bd .nil pass0 (pa_cons (pv 3) (pa_cons (pv 7) pa_nil))) (pe_rdy R_l_answer hr (by decide) (by rfl) (pa_cons pe_str (pa_cons (pv 3) (pa_cons (pv 7) (pa_cons pe_str pa_nil))))) (nomark _))
      (pss_one (ps_ret pe_bl))
      pss_nil)))))))))
      (pss_one (ps_ret pe_bl))), ?_⟩
    refine ⟨_, rfl, a, _, rfl, .inl hS, _, _, rfl, _, _, rfl, ?_⟩
    rw [List.length_map]
    obtain ⟨N, eN⟩ : ∃ N : Int, (if (if (ns.length : Int) < 5 then (ns.length : Int) else 5) > 1 then (if (ns.length : Int) < 5 then (ns.length : Int) else 5) else 1) = N := ⟨_, rfl⟩
    have hN : 1 ≤ N ∧ N ≤ 5 := by
      subst eN
      (repeat' split) <;> omega
    refine ⟨N, by rw [← eN], by omega, by omega, ?_⟩
    refine for_range (lo := 0) (n := N.toNat) (fun i σ H' => (∃ y1 y2 y3 y4 y5 y6 y7 y8 y9 y10 y11 y12 y13 y14, σ = [some (.ref a), y1, y2, y3, y4, y5, y6, y7, y8, y9, y10, y11, y12, y13, y14]) ∧ Same H H') ⟨⟨_, _, _, _, _, _, _, _, _, _, _, _, _, _, rfl⟩, Same.refl H⟩ ?_ ?_
    · rintro i σ H5 hi ⟨⟨y1, y2, y3, y4, y5, y6, y7, y8, y9, y10, y11, y12, y13, y14, rfl⟩, s5⟩
      refine ⟨_, rfl, _, rfl, a, ns, _, rfl, s5.seq hS, hn, by omega, by omega, fun p H6 np bg6 s6 => ?_⟩
      refine ⟨_, rfl, _, rfl, p, 14, rfl, bg6, by omega, by omega, fun m H7 m0 m1 bg7 bt7 => ?_⟩
      refine ⟨_, _, rfl, rfl, p, 9, 2 + m, rfl, bg7, by omega, by omega, by omega, by omega, fun s ts ps H8 nS hs pd hst hl bg8 k8 => ?_⟩
      have k68 : Kp p H6 H8 := bt7.kp.trans k8
      have nsp : s ≠ p := bagN_refs bg8 hs
      refine ⟨fun σ H' => ∃ y4 y5 y6 s ts ps, σ = [some (.ref a), some (.int (0 + (i : Int))), some (.ref p), some (.ref s), y4, y5, y6, y7, y8, y9, y10, y11, y12, y13, y14] ∧ H' s = some (.lst (ts.map V.ref)) ∧ Pd H' ts ps ∧ (∀ x ∈ ps, strP x = true) ∧ ps.length ≤ 9 ∧ BagN H' p ∧ Kp p H6 H', ?_, ?_⟩
      · refine ⟨_, rfl, p, 3, rfl, bg8, by omega, by omega, fun r H9 r0 r1 bg9 bt9 => ⟨rfl, _, rfl, ?_⟩⟩
        refine ite2 (fun c => ?_) (fun c => ?_)
        · refine ⟨_, rfl, p, 4, rfl, bg9, by omega, by omega, fun now H10 w0 w1 bg10 bt10 => ?_⟩
          refine ⟨Nat.zero_le _, fun L nL => ⟨_, _, rfl, ?_⟩⟩
          have neL : L ≠ p := bagN_none bg10 nL
          have sL := Same.new (o := .lst []) nL
          refine ⟨_, rfl, p, 9, rfl, bg10.same sL, by omega, by omega, fun k H11 k0 k1 bg11 bt11 => ?_⟩
          have hL11 : H11 L = some (.lst []) := (bt11 L neL).trans upd_same
          refine ⟨k, rfl, by omega, by omega, ?_⟩
          refine for_range (lo := 0) (n := k.toNat) (fun j σ H' => ∃ nw y5 y6 ts ps, σ = [some (.ref a), some (.int (0 + (i : Int))), some (.ref p), some (.ref L), some (.int nw), y5, y6, y7, y8, y9, y10, y11, y12, y13, y14] ∧ 0 ≤ nw ∧ nw ≤ 4 * (j : Int) + 3 ∧ H' L = some (.lst (ts.map V.ref)) ∧ Pd H' ts ps ∧ (∀ x ∈ ps, strP x = true) ∧ ps.length ≤ j ∧ BagN H' p ∧ Ks p L H11 H')
            ⟨now, y5, y6, [], [], rfl, w0, by omega, hL11, trivial, (fun x h => nomatch h), Nat.zero_le _, bg11, Ks.refl⟩ ?_ ?_
          · rintro j σ H12 hj ⟨nw, y5, y6, ts, ps, rfl, n0, n1, hL, pd, hst, hl, bg12, ks⟩
            have lts := pd.len
            refine ⟨_, rfl, _, rfl, p, 4, rfl, bg12, by omega, by omega, fun d H13 d0 d1 bg13 bt13 => ⟨_, _, rfl, rfl, ?_⟩⟩
            have hL13 := (bt13 L neL).trans hL
            refine ⟨_, rfl, .inl ⟨rfl, _, SqL.hp hL13⟩, _, rfl, _, rfl, (by show 2 ≤ sizeLine; decide), fun T nT => ?_⟩
            have sT := Same.new (o := .tup [.int nw, .int (nw + d)]) nT
            have hL14 := sT _ _ hL13
            have neT : L ≠ T := ne_of_none hL13 nT
            refine ⟨L, _, _, rfl, rfl, hL14, by rw [List.length_map]; exact small1000 (by omega), ?_⟩
            have bg15 : BagN (upd (upd H13 T (.tup [.int nw, .int (nw + d)])) L (.lst (ts.map V.ref ++ [.ref T]))) p := (bg13.same sT).kp Kp.at_ (Ne.symm neL)
            have pd15 : Pd (upd (upd H13 T (.tup [.int nw, .int (nw + d)])) L (.lst (ts.map V.ref ++ [.ref T]))) (ts ++ [T]) (ps ++ [(nw, nw + d)]) := by
              refine Pd.app (Pd.kp Kp.at_ (fun xs z => by rw [hL14] at z; cases z) ((pd.kp bt13.kp bg12.ne_tup).same sT)) ⟨?_, trivial⟩
              rw [upd_ne (Ne.symm neT), upd_same]
            have hL15 : (upd (upd H13 T (.tup [.int nw, .int (nw + d)])) L (.lst (ts.map V.ref ++ [.ref T]))) L = some (.lst ((ts ++ [T]).map V.ref)) := by rw [upd_same, List.map_append]; rfl
            have ks15 : Ks p L H11 (upd (upd H13 T (.tup [.int nw, .int (nw + d)])) L (.lst (ts.map V.ref ++ [.ref T]))) := (ks.trans (Ks.kp bt13.kp)).trans ((Ks.same sT).trans (Ks.kq Kp.at_))
            have hst15 : ∀ x ∈ ps ++ [(nw, nw + d)], strP x = true := fun x hx => by
              rcases List.mem_append.mp hx with hx | hx
              · exact hst x hx
              · rw [List.mem_singleton.mp hx]; exact strP_of (by omega) (by omega) (by omega)
            generalize (upd (upd H13 T (.tup [.int nw, .int (nw + d)])) L (.lst (ts.map V.ref ++ [.ref T]))) = H15 at *
            refine ⟨_, rfl, _, rfl, p, 4, rfl, bg15, by omega, by omega, fun u H16 u0 u1 bg16 bt16 => ⟨rfl, .inr ⟨_, rfl, _, _, rfl, rfl, ?_⟩⟩⟩
            refine ⟨_, _, _, ts ++ [T], ps ++ [(nw, nw + d)], rfl, ?_, ?_, (bt16 L neL).trans hL15, pd15.kp bt16.kp bg15.ne_tup, hst15, by rw [List.length_append, List.length_singleton]; omega, bg16, ks15.trans (Ks.kp bt16.kp)⟩
            · split <;> omega
            · split <;> omega
          · rintro σ H12 ⟨nw, y5, y6, ts, ps, rfl, n0, n1, hL, pd, hst, hl, bg12, ks⟩
            refine ⟨_, _, _, L, ts, ps, rfl, hL, pd, hst, by omega, bg12, ?_⟩
            have k10 : Kp p H6 H10 := (k68.trans bt9.kp).trans bt10.kp
            refine k10.trans (ks_new (o := .lst []) nL ?_ neL)
            exact (Ks.kp bt11.kp).trans ks
        · exact ⟨_, _, _, s, ts, ps, rfl, (bt9 s nsp).trans hs, pd.kp bt9.kp bg8.ne_tup, hst, by omega, bg9, k68.trans bt9.kp⟩
      clear nsp k68 hst hl pd hs nS k8 bg8 bg7 bt7
      rintro σ H8 ⟨y4, y5, y6, s, ts, ps, rfl, hs, pd, hst, hl, bg8, k8⟩
      refine ⟨_, rfl, p, 8, rfl, bg8, by omega, by omega, fun t w H9 ht hw bg9 k9 => ?_⟩
      have nsp : s ≠ p := bagN_refs bg8 hs
      have hs9 := k9 _ _ nsp hs
      have pd9 := pd.kp k9 bg8.ne_tup
      have lts := pd.len
      refine ⟨fun σ H' => ∃ k u us qs, σ = [some (.ref a), some (.int (0 + (i : Int))), some (.ref p), some (.ref s), y4, y5, y6, some (.ref t), some (.ref k), some (.ref u), y10, y11, y12, y13, y14] ∧ H' s = some (.lst (ts.map V.ref)) ∧ Pd H' ts ps ∧ H' k = some (.lst (ts.map V.ref)) ∧ H' u = some (.lst (us.map V.ref)) ∧ Pd H' us qs ∧ (∀ x ∈ qs, strP x = true) ∧ qs.length ≤ 18 ∧ H' t = some (.tup [.int w.1, .int w.2]) ∧ Kp p H6 H', ?_, ?_⟩
      · refine ⟨_, rfl, s, _, rfl, .inl (SqL.hp hs9), fun k nk => ?_⟩
        have sk := Same.new (o := .lst (ts.map V.ref)) nk
        have bgk := bg9.same sk
        have hsk := sk _ _ hs9
        have hkk : (upd H9 k (.lst (ts.map V.ref))) k = some (.lst (ts.map V.ref)) := upd_same
        have pdk := pd9.same sk
        have htk := sk _ _ ht
        have kk : Kp p H6 (upd H9 k (.lst (ts.map V.ref))) := (k8.trans k9).trans (Kp.same sk)
        generalize upd H9 k (.lst (ts.map V.ref)) = Hk at *
        have nkp : k ≠ p := bagN_refs bgk hkk
        refine ⟨_, rfl, _, rfl, _, rfl, s, _, rfl, .inl (SqL.hp hsk), _, _, rfl, rfl, p, _, rfl, bgk, by omega, by rw [List.length_map]; omega, fun x H10 x0 x1 bg10 bt10 => ⟨_, rfl, ?_⟩⟩
        have hs10 := (bt10 s nsp).trans hsk
        refine ⟨s, _, rfl, SqL.hp hs10, fun C1 n1 => ?_⟩
        have s1 := Same.new (o := .lst (cutV (ts.map V.ref) (some x) none)) n1
        have e1 : cutV (ts.map V.ref) (some x) none = (ts.drop x.toNat).map V.ref := cut_from (by omega)
        have hc1 : (upd H10 C1 (.lst (cutV (ts.map V.ref) (some x) none))) C1 = some (.lst ((ts.drop x.toNat).map V.ref)) := by rw [upd_same, e1]
        have hs11 := s1 _ _ hs10
        have bg11 := bg10.same s1
        have k11 : Kp p Hk (upd H10 C1 (.lst (cutV (ts.map V.ref) (some x) none))) := bt10.kp.trans (Kp.same s1)
        generalize upd H10 C1 (.lst (cutV (ts.map V.ref) (some x) none)) = H11 at *
        have nc1 : C1 ≠ p := bagN_refs bg11 hc1
        refine ⟨_, rfl, _, rfl, _, rfl, s, _, rfl, .inl (SqL.hp hs11), _, _, rfl, rfl, p, _, rfl, bg11, by omega, by rw [List.length_map]; omega, fun y H12 z0 z1 bg12 bt12 => ⟨_, rfl, ?_⟩⟩
        have hs12 := (bt12 s nsp).trans hs11
        refine ⟨s, _, rfl, SqL.hp hs12, fun C2 n2 => ?_⟩
        have s2 := Same.new (o := .lst (cutV (ts.map V.ref) none (some y))) n2
        have e2 : cutV (ts.map V.ref) none (some y) = (ts.take y.toNat).map V.ref := cut_to (by omega)
        have hc2 : (upd H12 C2 (.lst (cutV (ts.map V.ref) none (some y)))) C2 = some (.lst ((ts.take y.toNat).map V.ref)) := by rw [upd_same, e2]
        have hc13 := s2 _ _ ((bt12 C1 nc1).trans hc1)
        have k13 : Kp p Hk (upd H12 C2 (.lst (cutV (ts.map V.ref) none (some y)))) := k11.trans (bt12.kp.trans (Kp.same s2))
        generalize upd H12 C2 (.lst (cutV (ts.map V.ref) none (some y))) = H13 at *
        refine ⟨C1, C2, _, _, rfl, rfl, hc13, hc2, Nat.le_of_lt (small1000 (by rw [List.length_map, List.length_map, List.length_drop, List.length_take]; omega)), fun u nu => ⟨_, _, rfl, ?_⟩⟩
        have su := Same.new (o := .lst ((ts.drop x.toNat).map V.ref ++ (ts.take y.toNat).map V.ref)) nu
        have kf : Kp p Hk (upd H13 u (.lst ((ts.drop x.toNat).map V.ref ++ (ts.take y.toNat).map V.ref))) := k13.trans (Kp.same su)
        have pdf := pdk.kp kf bgk.ne_tup
        refine ⟨k, u, ts.drop x.toNat ++ ts.take y.toNat, ps.drop x.toNat ++ ps.take y.toNat, rfl, kf _ _ nsp hsk, pdf, kf _ _ nkp hkk, by rw [upd_same, List.map_append], Pd.app (Pd.drop _ pdf) (Pd.take _ pdf), ?_, ?_, kf _ _ (bagN_tup bgk htk) htk, kk.trans kf⟩
        · intro v hv
          rcases List.mem_append.mp hv with hv | hv
          · exact drop_good hst v hv
          · exact take_good hst v hv
        · rw [List.length_append, List.length_drop, List.length_take]; omega
      clear hs9 pd9 ht bg9 k9 nsp bg8 hs pd k8
      rintro σ H9 ⟨k, u, us, qs, rfl, hs, pd, hk, hu, pu, hsu, lu, ht, k9⟩
      have s9 := same_kp np s6 k9
      have l1 : ps.length ≤ 200 := by omega
      have l2 : qs.length ≤ 200 := by omega
      -- for word
      refine ⟨(by show 2 ≤ sizeLine; decide), fun W nW => ⟨W, rfl, ⟨_, SqL.hp upd_same⟩, ?_⟩⟩
      have sW := Same.new (o := .lst [.str "half", .str "shut"]) nW
      refine for_list (K := K) (a := W) (xs := [.str "half", .str "shut"]) (fun i' σ H' => (∃ y10 y11 y12 y13 y14, σ = [some (.ref a), some (.int (0 + (i : Int))), some (.ref p), some (.ref s), y4, y5, y6, some (.ref t), some (.ref k), some (.ref u), y10, y11, y12, y13, y14]) ∧ Same (upd H9 W (.lst [.str "half", .str "shut"])) H') ⟨⟨_, _, _, _, _, rfl⟩, Same.refl _⟩ (fun i' σ H' _ h => SqL.hp (h.2 _ _ upd_same)) ?_ ?_
      · rintro i' x σ H10 hx ⟨⟨y10, y11, y12, y13, y14, rfl⟩, s10⟩
        obtain ⟨z, rfl⟩ := mode_of hx
        have g10 := sW.trans s10
        -- for term
        refine ⟨(by show 3 ≤ sizeLine; decide), fun V3 nV => ⟨V3, rfl, ⟨_, SqL.hp upd_same⟩, ?_⟩⟩
        have sV := Same.new (o := .lst [.str "busy", .str "covered", .str "clash"]) nV
        refine for_list (K := K) (a := V3) (xs := [.str "busy", .str "covered", .str "clash"]) (fun i'' σ H' => (∃ y11 y12 y13 y14, σ = [some (.ref a), some (.int (0 + (i : Int))), some (.ref p), some (.ref s), y4, y5, y6, some (.ref t), some (.ref k), some (.ref u), some (endsV z), y11, y12, y13, y14]) ∧ Same (upd H10 V3 (.lst [.str "busy", .str "covered", .str "clash"])) H') ⟨⟨_, _, _, _, rfl⟩, Same.refl _⟩ (fun i'' σ H' _ h => SqL.hp (h.2 _ _ upd_same)) ?_ ?_
        · rintro j x σ H11 hx ⟨⟨y11, y12, y13, y14, rfl⟩, s11⟩
          obtain ⟨rfl, j3⟩ := mem_term hx
          have g11 := g10.trans (sV.trans s11)
          -- wish
          refine ⟨_, rfl, _, rfl, rfl, rfl, fun o dx no nd nod => ⟨o, dx, j, z, rfl, j3, upd_same, fun H12 kp ho => ⟨rfl, ?_⟩⟩⟩
          have s12 := same_make no nd kp
          have g12 := g11.trans s12
          -- due
          refine ⟨_, rfl, _, rfl, _, rfl, _, rfl, j, s, _, ts, ps, w, z, rfl, j3, SqL.hp (g12 _ _ hs), pd.same g12, hst, l1, .inr ⟨t, rfl, SqT.hp (g12 _ _ ht)⟩, fun H13 s13 => ?_⟩
          have g13 := g12.trans s13
          have o13 := s13 _ _ ho
          -- told
          refine ⟨_, rfl, o, dx, _, rfl, o13, no_wished j z, _, rfl, _, rfl, o, s, _, j, ts, ps, w, z, rfl, j3, ⟨dx, o13⟩, .inl (SqL.hp (g13 _ _ hs)), pd.same g13, hst, by omega, .inr ⟨t, rfl, SqT.hp (g13 _ _ ht), hw⟩, fun H14 s14 => ?_⟩
          have g14 := g13.trans s14
          -- the first if
          refine ⟨_, rfl, (by show 2 ≤ sizeLine; decide), fun Lb nLb => ⟨Lb, _, rfl, .inl (SqL.hp upd_same), rfl, rfl, _, rfl, ?_⟩⟩
          have sLb := Same.new (o := .lst [.bl true, .bl false]) nLb
          have g15 := g14.trans sLb
          have o15 := sLb _ _ (s14 _ _ o13)
          generalize upd H14 Lb (.lst [.bl true, .bl false]) = H15 at *
          refine iteFe (by rw [in_bools]; rfl) ?_
          refine ⟨_, rfl, _, _, _, _, _, rfl, .ty _, dpTy (.bl _), kit_ty (kitBool (.bool _)), _, rfl, iteFe rfl ?_⟩
          refine ⟨_, rfl, _, rfl, rfl, _, rfl, iteFe (by simp) ?_⟩
          refine ⟨_, rfl, _, rfl, .list (ps.map prD), .list (ps.map prD), .lst (SqL.hp (g15 _ _ hs)) (pd.same g15).dp, .lst (SqL.hp (g15 _ _ hk)) (pd.same g15).dp, shapedPs _, shapedPs _, _, rfl, iteFe (eqv_self ps) ?_⟩
          -- the second if: turned about, another list
          refine ⟨_, rfl, o, dx, _, rfl, o15, no_wished j z, _, rfl, s, _, rfl, SqL.hp (g15 _ _ hs), fun R nR => ?_⟩
          have sR := Same.new (o := .lst (ts.map V.ref).reverse) nR
          refine ⟨R, _, rfl, .inl ⟨SqL.hp upd_same, fun T nT => ?_⟩⟩
          have sT := Same.new (o := .tup (ts.map V.ref).reverse) nT
          have hT : (upd (upd H15 R (.lst (ts.map V.ref).reverse)) T (.tup (ts.map V.ref).reverse)) T = some (.tup (ts.reverse.map V.ref)) := by rw [upd_same, List.map_reverse]
          have g16 := g15.trans (sR.trans sT)
          have o16 := (sR.trans sT) _ _ o15
          generalize upd (upd H15 R (.lst (ts.map V.ref).reverse)) T (.tup (ts.map V.ref).reverse) = H16 at *
          refine ⟨_, rfl, o, T, _, j, ts.reverse, ps.reverse, w, z, rfl, j3, ⟨dx, o16⟩, .inr (SqT.hp hT), Pd.rev (pd.same g16), (fun v hv => hst v (List.mem_reverse.mp hv)), by rw [List.length_reverse]; omega, .inr ⟨t, rfl, SqT.hp (g16 _ _ ht), hw⟩, fun H17 s17 => ?_⟩
          have g17 := g16.trans s17
          have o17 := s17 _ _ o16
          refine ⟨_, rfl, rfl, _, rfl, iteFe (by rw [ans_rev]; simp) ?_⟩
          refine ⟨_, rfl, o, dx, _, rfl, o17, no_wished j z, _, rfl, _, rfl, o, u, _, j, us, qs, w, z, rfl, j3, ⟨dx, o17⟩, .inl (SqL.hp (g17 _ _ hu)), pu.same g17, hsu, by omega, .inr ⟨t, rfl, SqT.hp (g17 _ _ ht), hw⟩, fun H18 s18 => ?_⟩
          have g18 := g17.trans s18
          refine ⟨_, rfl, _, rfl, _, rfl, _, rfl, j, u, _, us, qs, w, z, rfl, j3, SqL.hp (g18 _ _ hu), pu.same g18, hsu, l2, .inr ⟨t, rfl, SqT.hp (g18 _ _ ht)⟩, fun H19 s19 => ?_⟩
          have g19 := g18.trans s19
          have o19 := s19 _ _ (s18 _ _ o17)
          refine ⟨rfl, _, rfl, iteFe (by simp) ?_⟩
          -- the third if: no stretches; once more
          refine ⟨_, rfl, o, dx, _, rfl, o19, no_wished j z, Nat.zero_le _, fun L nL => ?_⟩
          have sL := Same.new (o := .lst []) nL
          have hL : (upd H19 L (.lst [])) L = some (.lst (([] : List Addr).map V.ref)) := upd_same
          have g20 := g19.trans sL
          have o20 := sL _ _ o19
          generalize upd H19 L (.lst []) = H20 at *
          refine ⟨_, rfl, o, L, _, j, [], [], w, z, rfl, j3, ⟨dx, o20⟩, .inl (SqL.hp hL), trivial, (fun v hv => nomatch hv), by decide, .inr ⟨t, rfl, SqT.hp (g20 _ _ ht), hw⟩, fun H21 s21 => ?_⟩
          have g21 := g20.trans s21
          have o21 := s21 _ _ o20
          refine ⟨_, _, rfl, rfl, _, rfl, iteFe (by rw [ans_nil]; rfl) ?_⟩
          refine ⟨_, rfl, o, dx, _, rfl, o21, no_wished j z, _, rfl, _, rfl, o, s, _, j, ts, ps, w, z, rfl, j3, ⟨dx, o21⟩, .inl (SqL.hp (g21 _ _ hs)), pd.same g21, hst, by omega, .inr ⟨t, rfl, SqT.hp (g21 _ _ ht), hw⟩, fun H22 s22 => ?_⟩
          refine ⟨_, rfl, rfl, _, rfl, iteFe (by simp) ?_⟩
          refine ⟨⟨_, _, _, _, rfl⟩, s11.trans (s12.trans (s13.trans (s14.trans (sLb.trans ?_))))⟩
          exact (sR.trans sT).trans (s17.trans (s18.trans (s19.trans (sL.trans (s21.trans s22)))))
        · -- clash without a window
          rintro σ H11 ⟨⟨y11, y12, y13, y14, rfl⟩, s11⟩
          have g11 := g10.trans (sV.trans s11)
          refine ⟨_, rfl, rfl, rfl, fun o dx no nd nod => ⟨o, dx, 2, z, rfl, by decide, upd_same, fun H12 kp ho => ⟨rfl, ?_⟩⟩⟩
          have s12 := same_make no nd kp
          have g12 := g11.trans s12
          refine ⟨o, dx, _, rfl, ho, no_wished 2 z, _, rfl, o, s, _, 2, ts, ps, w, z, rfl, by decide, ⟨dx, ho⟩, .inl (SqL.hp (g12 _ _ hs)), pd.same g12, hst, by omega, .inl ⟨rfl, rfl⟩, fun H13 s13 => ?_⟩
          have g13 := g12.trans s13
          refine ⟨_, rfl, _, rfl, 2, s, _, ts, ps, w, z, rfl, by decide, SqL.hp (g13 _ _ hs), pd.same g13, hst, l1, .inl rfl, fun H14 s14 => ?_⟩
          refine ⟨rfl, _, rfl, iteFe (by simp) ?_⟩
          exact ⟨⟨_, _, _, _, _, rfl⟩, s10.trans ((sV.trans s11).trans (s12.trans (s13.trans s14)))⟩
      · -- busy with the ends left out
        rintro σ H10 ⟨⟨y10, y11, y12, y13, y14, rfl⟩, s10⟩
        have g10 := sW.trans s10
        refine fun o dx no nd nod => ⟨o, dx, 0, false, rfl, by decide, upd_same, fun H12 kp ho => ⟨rfl, ?_⟩⟩
        have s12 := same_make no nd kp
        have g12 := g10.trans s12
        refine ⟨o, dx, _, rfl, ho, no_wished 0 false, _, rfl, _, rfl, o, s, _, 0, ts, ps, w, false, rfl, by decide, ⟨dx, ho⟩, .inl (SqL.hp (g12 _ _ hs)), pd.same g12, hst, by omega, .inr ⟨t, rfl, SqT.hp (g12 _ _ ht), hw⟩, fun H13 s13 => ?_⟩
        have g13 := g12.trans s13
        refine ⟨_, rfl, _, rfl, 0, s, _, ts, ps, w, false, rfl, by decide, SqL.hp (g13 _ _ hs), pd.same g13, hst, l1, .inr ⟨t, rfl, SqT.hp (g13 _ _ ht)⟩, fun H14 s14 => ?_⟩
        refine ⟨rfl, _, rfl, iteFe (by simp) ?_⟩
        exact ⟨⟨_, _, _, _, _, _, _, _, _, _, _, _, _, _, rfl⟩, s5.trans (s9.trans (g13.trans s14))⟩
    · rintro σ H' ⟨⟨y1, y2, y3, y4, y5, y6, y7, y8, y9, y10, y11, y12, y13, y14, rfl⟩, s5⟩
      exact q H'
end
section
theorem all_mk {l : PySem.W.OpenLaw} {w : World} {K : PySem.W.Frag} {h : Heap} {mg : Str → Option Value} {fa : Addr} {t_FIRST : Tok} {t_LAST : Tok} {t_FAR : Tok} {CE : Addr} {tE1 tE2 : Tok} {C WA : Addr} {o_W : Obj} {its_W : List Value} {n_W : Nat} {f_is_number : Addr} {od_is_number an_is_number : Option Addr} {sl_is_number : Array (Option Value)} {oc_is_number kV_is_number dc_is_number pm_is_number cd_is_number ct_is_number : Value} {f_is_edge : Addr} {od_is_edge an_is_edge : Option Addr} {sl_is_edge : Array (Option Value)} {oc_is_edge kV_is_edge dc_is_edge pm_is_edge cd_is_edge ct_is_edge : Value} {f_is_pair : Addr} {od_is_pair an_is_pair : Option Addr} {sl_is_pair : Array (Option Value)} {oc_is_pair kV_is_pair dc_is_pair pm_is_pair cd_is_pair ct_is_pair : Value} {f_is_stretch : Addr} {od_is_stretch an_is_stretch : Option Addr} {sl_is_stretch : Array (Option Value)} {oc_is_stretch kV_is_stretch dc_is_stretch pm_is_stretch cd_is_stretch ct_is_stretch : Value} {f_is_window : Addr} {od_is_window an_is_window : Option Addr} {sl_is_window : Array (Option Value)} {oc_is_window kV_is_window dc_is_window pm_is_window cd_is_window ct_is_window : Value} {f_check_ends : Addr} {od_check_ends an_check_ends : Option Addr} {sl_check_ends : Array (Option Value)} {oc_check_ends kV_check_ends dc_check_ends pm_check_ends cd_check_ends ct_check_ends : Value} {f_check_stretches : Addr} {od_check_stretches an_check_stretches : Option Addr} {sl_check_stretches : Array (Option Value)} {oc_check_stretches kV_check_stretches dc_check_stretches pm_check_stretches cd_check_stretches ct_check_stretches : Value} {f_is_empty : Addr} {od_is_empty an_is_empty : Option Addr} {sl_is_empty : Array (Option Value)} {oc_is_empty kV_is_empty dc_is_empty pm_is_empty cd_is_empty ct_is_empty : Value} {T_is_empty : Addr} {o_is_empty : Obj} {its_is_empty : List Value} {n_is_empty : Nat} {f_join_sorted : Addr} {od_join_sorted an_join_sorted : Option Addr} {sl_join_sorted : Array (Option Value)} {oc_join_sorted kV_join_sorted dc_join_sorted pm_join_sorted cd_join_sorted ct_join_sorted : Value} {f_union : Addr} {od_union an_union : Option Addr} {sl_union : Array (Option Value)} {oc_union kV_union dc_union pm_union cd_union ct_union : Value} {T_union : Addr} {o_union : Obj} {its_union : List Value} {n_union : Nat} {f_touches : Addr} {od_touches an_touches : Option Addr} {sl_touches : Array (Option Value)} {oc_touches kV_touches dc_touches pm_touches cd_touches ct_touches : Value} {f_check_window : Addr} {od_check_window an_check_window : Option Addr} {sl_check_window : Array (Option Value)} {oc_check_window kV_check_window dc_check_window pm_check_window cd_check_window ct_check_window : Value} {f_check_word : Addr} {od_check_word an_check_word : Option Addr} {sl_check_word : Array (Option Value)} {oc_check_word kV_check_word dc_check_word pm_check_word cd_check_word ct_check_word : Value} {f_l_bag : Addr} {od_l_bag an_l_bag : Option Addr} {sl_l_bag : Array (Option Value)} {oc_l_bag kV_l_bag dc_l_bag pm_l_bag cd_l_bag ct_l_bag : Value} {f_l_take : Addr} {od_l_take an_l_take : Option Addr} {sl_l_take : Array (Option Value)} {oc_l_take kV_l_take dc_l_take pm_l_take cd_l_take ct_l_take : Value} {f_l_of : Addr} {od_l_of an_l_of : Option Addr} {sl_l_of : Array (Option Value)} {oc_l_of kV_l_of dc_l_of pm_l_of cd_l_of ct_l_of : Value} {f_l_edge : Addr} {od_l_edge an_l_edge : Option Addr} {sl_l_edge : Array (Option Value)} {oc_l_edge kV_l_edge dc_l_edge pm_l_edge cd_l_edge ct_l_edge : Value} {f_l_span : Addr} {od_l_span an_l_span : Option Addr} {sl_l_span : Array (Option Value)} {oc_l_span kV_l_span dc_l_span pm_l_span cd_l_span ct_l_span : Value} {f_l_spans : Addr} {od_l_spans an_l_spans : Option Addr} {sl_l_spans : Array (Option Value)} {oc_l_spans kV_l_spans dc_l_spans pm_l_spans cd_l_spans ct_l_spans : Value} {f_l_window : Addr} {od_l_window an_l_window : Option Addr} {sl_l_window : Array (Option Value)} {oc_l_window kV_l_window dc_l_window pm_l_window cd_l_window ct_l_window : Value} {f_l_meets : Addr} {od_l_meets an_l_meets : Option Addr} {sl_l_meets : Array (Option Value)} {oc_l_meets kV_l_meets dc_l_meets pm_l_meets cd_l_meets ct_l_meets : Value} {f_l_pieces : Addr} {od_l_pieces an_l_pieces : Option Addr} {sl_l_pieces : Array (Option Value)} {oc_l_pieces kV_l_pieces dc_l_pieces pm_l_pieces cd_l_pieces ct_l_pieces : Value} {f_has_clash : Addr} {od_has_clash an_has_clash : Option Addr} {sl_has_clash : Array (Option Value)} {oc_has_clash kV_has_clash dc_has_clash pm_has_clash cd_has_clash ct_has_clash : Value} {f_has_cover : Addr} {od_has_cover an_has_cover : Option Addr} {sl_has_cover : Array (Option Value)} {oc_has_cover kV_has_cover dc_has_cover pm_has_cover cd_has_cover ct_has_cover : Value} {f_l_answer : Addr} {od_l_answer an_l_answer : Option Addr} {sl_l_answer : Array (Option Value)} {oc_l_answer kV_l_answer dc_l_answer pm_l_answer cd_l_answer ct_l_answer : Value} {f_Answer_init : Addr} {od_Answer_init an_Answer_init : Option Addr} {sl_Answer_init : Array (Option Value)} {oc_Answer_init dc_Answer_init pm_Answer_init cd_Answer_init ct_Answer_init : Value} {D_Answer_init : Addr} {u0_Answer_init : Tok} {f_Answer_uses_window : Addr} {od_Answer_uses_window an_Answer_uses_window : Option Addr} {sl_Answer_uses_window : Array (Option Value)} {oc_Answer_uses_window kV_Answer_uses_window dc_Answer_uses_window pm_Answer_uses_window cd_Answer_uses_window ct_Answer_uses_window : Value} {P_Answer_uses_window : Addr} {rest_Answer_uses_window : List Value} {f_check_need : Addr} {od_check_need an_check_need : Option Addr} {sl_check_need : Array (Option Value)} {oc_check_need kV_check_need dc_check_need pm_check_need cd_check_need ct_check_need : Value} {f_Answer_wished : Addr} {od_Answer_wished an_Answer_wished : Option Addr} {sl_Answer_wished : Array (Option Value)} {oc_Answer_wished kV_Answer_wished dc_Answer_wished pm_Answer_wished cd_Answer_wished ct_Answer_wished : Value} {T_Answer_wished : Addr} {o_Answer_wished : Obj} {its_Answer_wished : List Value} {n_Answer_wished : Nat} {f_law : Addr} {od_law an_law : Option Addr} {sl_law : Array (Option Value)} {oc_law kV_law dc_law pm_law cd_law ct_law : Value} (X : K.In h) (G : h.Ns mainGlobals mg) (hfa : mg "law" = some (.ref fa))
    (z_abs : PySem.W.nsIn K mainGlobals "abs" = some none)
    (z_any : PySem.W.nsIn K mainGlobals "any" = some none)
    (z_bool : PySem.W.nsIn K mainGlobals "bool" = some none)
    (z_enumerate : PySem.W.nsIn K mainGlobals "enumerate" = some none)
    (z_int : PySem.W.nsIn K mainGlobals "int" = some none)
    (z_isinstance : PySem.W.nsIn K mainGlobals "isinstance" = some none)
    (z_len : PySem.W.nsIn K mainGlobals "len" = some none)
    (z_list : PySem.W.nsIn K mainGlobals "list" = some none)
    (z_max : PySem.W.nsIn K mainGlobals "max" = some none)
    (z_min : PySem.W.nsIn K mainGlobals "min" = some none)
    (z_range : PySem.W.nsIn K mainGlobals "range" = some none)
    (z_sorted : PySem.W.nsIn K mainGlobals "sorted" = some none)
    (z_tuple : PySem.W.nsIn K mainGlobals "tuple" = some none)
    (c_FIRST : PySem.W.nsIn K mainGlobals "FIRST" = some (some (.int (-10000000000000000000000000000000) t_FIRST)))
    (c_LAST : PySem.W.nsIn K mainGlobals "LAST" = some (some (.int (10000000000000000000000000000000) t_LAST)))
    (c_FAR : PySem.W.nsIn K mainGlobals "FAR" = some (some (.int (1000000000000000000000000000000) t_FAR)))
    (e_g : PySem.W.nsIn K mainGlobals "Ends" = some (some (.ref CE)))
    (e_rd : PySem.W.readsIn K CE (.type "type") = true)
    (e_ga : PySem.W.specialIn K (.ref CE) "__getattribute__" = some (some (.builtin "type.__getattribute__")))
    (e_1 : PySem.W.findCls K (.ref CE) (.type "type") "HALF" = some (.val (.str "half" tE1)))
    (e_2 : PySem.W.findCls K (.ref CE) (.type "type") "SHUT" = some (.val (.str "shut" tE2)))
    (c_at : PySem.W.nsIn K mainGlobals "Answer" = some (some (.ref C)))
    (c_pg : PySem.W.plainGet K C Str.empty = true)
    (c_hd : PySem.W.hasDictIn K C = true)
    (c_po : PySem.W.plainOver K C = true)
    (c_sa : PySem.W.findIn K (.ref C) "__setattr__" = some (some (.builtin "object.__setattr__")))
    (c_mk : PySem.W.makesIn K C = true)
    (c_kc : PySem.W.keepIn K (.ref C) = true)
    (c_nW : PySem.W.findIn K (.ref C) "what" = some none)
    (c_nE : PySem.W.findIn K (.ref C) "ends" = some none)
    (w_at : PySem.W.nsIn K mainGlobals "ANSWERS" = some (some (.ref WA)))
    (w_1 : K.lookup WA = some o_W)
    (w_2 : o_W.data = .seq its_W.toArray n_W)
    (w_3 : Vals [.str "busy", .str "covered", .str "clash"] its_W)
    (w_4 : o_W.cls = .type "tuple")
    (w_5 : its_W.toArray.size ≤ sizeLine)
    (a_is_number : PySem.W.nsIn K mainGlobals "is_number" = some (some (.ref f_is_number)))
    (l_is_number : K.lookup f_is_number = some ⟨oc_is_number, od_is_number, .func (PySem.W.fnOf "is_number" "is_number" (defArgs s_is_number) (defBody s_is_number) (defScope s_is_number) .none kV_is_number dc_is_number pm_is_number an_is_number cd_is_number ct_is_number), sl_is_number⟩)
    (c_is_number : PySem.W.codeIn K cd_is_number "is_number" = true)
    (k_is_number : PySem.W.keepIn K (.ref f_is_number) = true)
    (a_is_edge : PySem.W.nsIn K mainGlobals "is_edge" = some (some (.ref f_is_edge)))
    (l_is_edge : K.lookup f_is_edge = some ⟨oc_is_edge, od_is_edge, .func (PySem.W.fnOf "is_edge" "is_edge" (defArgs s_is_edge) (defBody s_is_edge) (defScope s_is_edge) .none kV_is_edge dc_is_edge pm_is_edge an_is_edge cd_is_edge ct_is_edge), sl_is_edge⟩)
    (c_is_edge : PySem.W.codeIn K cd_is_edge "is_edge" = true)
    (k_is_edge : PySem.W.keepIn K (.ref f_is_edge) = true)
    (a_is_pair : PySem.W.nsIn K mainGlobals "is_pair" = some (some (.ref f_is_pair)))
    (l_is_pair : K.lookup f_is_pair = some ⟨oc_is_pair, od_is_pair, .func (PySem.W.fnOf "is_pair" "is_pair" (defArgs s_is_pair) (defBody s_is_pair) (defScope s_is_pair) .none kV_is_pair dc_is_pair pm_is_pair an_is_pair cd_is_pair ct_is_pair), sl_is_pair⟩)
    (c_is_pair : PySem.W.codeIn K cd_is_pair "is_pair" = true)
    (k_is_pair : PySem.W.keepIn K (.ref f_is_pair) = true)
    (a_is_stretch : PySem.W.nsIn K mainGlobals "is_stretch" = some (some (.ref f_is_stretch)))
    (l_is_stretch : K.lookup f_is_stretch = some ⟨oc_is_stretch, od_is_stretch, .func (PySem.W.fnOf "is_stretch" "is_stretch" (defArgs s_is_stretch) (defBody s_is_stretch) (defScope s_is_stretch) .none kV_is_stretch dc_is_stretch pm_is_stretch an_is_stretch cd_is_stretch ct_is_stretch), sl_is_stretch⟩)
    (c_is_stretch : PySem.W.codeIn K cd_is_stretch "is_stretch" = true)
    (k_is_stretch : PySem.W.keepIn K (.ref f_is_stretch) = true)
    (a_is_window : PySem.W.nsIn K mainGlobals "is_window" = some (some (.ref f_is_window)))
    (l_is_window : K.lookup f_is_window = some ⟨oc_is_window, od_is_window, .func (PySem.W.fnOf "is_window" "is_window" (defArgs s_is_window) (defBody s_is_window) (defScope s_is_window) .none kV_is_window dc_is_window pm_is_window an_is_window cd_is_window ct_is_window), sl_is_window⟩)
    (c_is_window : PySem.W.codeIn K cd_is_window "is_window" = true)
    (k_is_window : PySem.W.keepIn K (.ref f_is_window) = true)
    (a_check_ends : PySem.W.nsIn K mainGlobals "check_ends" = some (some (.ref f_check_ends)))
    (l_check_ends : K.lookup f_check_ends = some ⟨oc_check_ends, od_check_ends, .func (PySem.W.fnOf "check_ends" "check_ends" (defArgs s_check_ends) (defBody s_check_ends) (defScope s_check_ends) .none kV_check_ends dc_check_ends pm_check_ends an_check_ends cd_check_ends ct_check_ends), sl_check_ends⟩)
    (c_check_ends : PySem.W.codeIn K cd_check_ends "check_ends" = true)
    (k_check_ends : PySem.W.keepIn K (.ref f_check_ends) = true)
    (a_check_stretches : PySem.W.nsIn K mainGlobals "check_stretches" = some (some (.ref f_check_stretches)))
    (l_check_stretches : K.lookup f_check_stretches = some ⟨oc_check_stretches, od_check_stretches, .func (PySem.W.fnOf "check_stretches" "check_stretches" (defArgs s_check_stretches) (defBody s_check_stretches) (defScope s_check_stretches) .none kV_check_stretches dc_check_stretches pm_check_stretches an_check_stretches cd_check_stretches ct_check_stretches), sl_check_stretches⟩)
    (c_check_stretches : PySem.W.codeIn K cd_check_stretches "check_stretches" = true)
    (k_check_stretches : PySem.W.keepIn K (.ref f_check_stretches) = true)
    (a_is_empty : PySem.W.nsIn K mainGlobals "is_empty" = some (some (.ref f_is_empty)))
    (l_is_empty : K.lookup f_is_empty = some ⟨oc_is_empty, od_is_empty, .func (PySem.W.fnOf "is_empty" "is_empty" (defArgs s_is_empty) (defBody s_is_empty) (defScope s_is_empty) (.ref T_is_empty) kV_is_empty dc_is_empty pm_is_empty an_is_empty cd_is_empty ct_is_empty), sl_is_empty⟩)
    (c_is_empty : PySem.W.codeIn K cd_is_empty "is_empty" = true)
    (k_is_empty : PySem.W.keepIn K (.ref f_is_empty) = true)
    (T1_is_empty : K.lookup T_is_empty = some o_is_empty)
    (T2_is_empty : o_is_empty.data = .seq its_is_empty.toArray n_is_empty)
    (T3_is_empty : Vals [.str "half"] its_is_empty)
    (a_join_sorted : PySem.W.nsIn K mainGlobals "join_sorted" = some (some (.ref f_join_sorted)))
    (l_join_sorted : K.lookup f_join_sorted = some ⟨oc_join_sorted, od_join_sorted, .func (PySem.W.fnOf "join_sorted" "join_sorted" (defArgs s_join_sorted) (defBody s_join_sorted) (defScope s_join_sorted) .none kV_join_sorted dc_join_sorted pm_join_sorted an_join_sorted cd_join_sorted ct_join_sorted), sl_join_sorted⟩)
    (c_join_sorted : PySem.W.codeIn K cd_join_sorted "join_sorted" = true)
    (k_join_sorted : PySem.W.keepIn K (.ref f_join_sorted) = true)
    (a_union : PySem.W.nsIn K mainGlobals "union" = some (some (.ref f_union)))
    (l_union : K.lookup f_union = some ⟨oc_union, od_union, .func (PySem.W.fnOf "union" "union" (defArgs s_union) (defBody s_union) (defScope s_union) (.ref T_union) kV_union dc_union pm_union an_union cd_union ct_union), sl_union⟩)
    (c_union : PySem.W.codeIn K cd_union "union" = true)
    (k_union : PySem.W.keepIn K (.ref f_union) = true)
    (T1_union : K.lookup T_union = some o_union)
    (T2_union : o_union.data = .seq its_union.toArray n_union)
    (T3_union : Vals [.str "half"] its_union)
    (a_touches : PySem.W.nsIn K mainGlobals "touches" = some (some (.ref f_touches)))
    (l_touches : K.lookup f_touches = some ⟨oc_touches, od_touches, .func (PySem.W.fnOf "touches" "touches" (defArgs s_touches) (defBody s_touches) (defScope s_touches) .none kV_touches dc_touches pm_touches an_touches cd_touches ct_touches), sl_touches⟩)
    (c_touches : PySem.W.codeIn K cd_touches "touches" = true)
    (k_touches : PySem.W.keepIn K (.ref f_touches) = true)
    (a_check_window : PySem.W.nsIn K mainGlobals "check_window" = some (some (.ref f_check_window)))
    (l_check_window : K.lookup f_check_window = some ⟨oc_check_window, od_check_window, .func (PySem.W.fnOf "check_window" "check_window" (defArgs s_check_window) (defBody s_check_window) (defScope s_check_window) .none kV_check_window dc_check_window pm_check_window an_check_window cd_check_window ct_check_window), sl_check_window⟩)
    (c_check_window : PySem.W.codeIn K cd_check_window "check_window" = true)
    (k_check_window : PySem.W.keepIn K (.ref f_check_window) = true)
    (a_check_word : PySem.W.nsIn K mainGlobals "check_word" = some (some (.ref f_check_word)))
    (l_check_word : K.lookup f_check_word = some ⟨oc_check_word, od_check_word, .func (PySem.W.fnOf "check_word" "check_word" (defArgs s_check_word) (defBody s_check_word) (defScope s_check_word) .none kV_check_word dc_check_word pm_check_word an_check_word cd_check_word ct_check_word), sl_check_word⟩)
    (c_check_word : PySem.W.codeIn K cd_check_word "check_word" = true)
    (k_check_word : PySem.W.keepIn K (.ref f_check_word) = true)
    (a_l_bag : PySem.W.nsIn K mainGlobals "_law_bag" = some (some (.ref f_l_bag)))
    (l_l_bag : K.lookup f_l_bag = some ⟨oc_l_bag, od_l_bag, .func (PySem.W.fnOf "_law_bag" "_law_bag" (defArgs s_l_bag) (defBody s_l_bag) (defScope s_l_bag) .none kV_l_bag dc_l_bag pm_l_bag an_l_bag cd_l_bag ct_l_bag), sl_l_bag⟩)
    (c_l_bag : PySem.W.codeIn K cd_l_bag "_law_bag" = true)
    (k_l_bag : PySem.W.keepIn K (.ref f_l_bag) = true)
    (a_l_take : PySem.W.nsIn K mainGlobals "_law_take" = some (some (.ref f_l_take)))
    (l_l_take : K.lookup f_l_take = some ⟨oc_l_take, od_l_take, .func (PySem.W.fnOf "_law_take" "_law_take" (defArgs s_l_take) (defBody s_l_take) (defScope s_l_take) .none kV_l_take dc_l_take pm_l_take an_l_take cd_l_take ct_l_take), sl_l_take⟩)
    (c_l_take : PySem.W.codeIn K cd_l_take "_law_take" = true)
    (k_l_take : PySem.W.keepIn K (.ref f_l_take) = true)
    (a_l_of : PySem.W.nsIn K mainGlobals "_law_of" = some (some (.ref f_l_of)))
    (l_l_of : K.lookup f_l_of = some ⟨oc_l_of, od_l_of, .func (PySem.W.fnOf "_law_of" "_law_of" (defArgs s_l_of) (defBody s_l_of) (defScope s_l_of) .none kV_l_of dc_l_of pm_l_of an_l_of cd_l_of ct_l_of), sl_l_of⟩)
    (c_l_of : PySem.W.codeIn K cd_l_of "_law_of" = true)
    (k_l_of : PySem.W.keepIn K (.ref f_l_of) = true)
    (a_l_edge : PySem.W.nsIn K mainGlobals "_law_edge" = some (some (.ref f_l_edge)))
    (l_l_edge : K.lookup f_l_edge = some ⟨oc_l_edge, od_l_edge, .func (PySem.W.fnOf "_law_edge" "_law_edge" (defArgs s_l_edge) (defBody s_l_edge) (defScope s_l_edge) .none kV_l_edge dc_l_edge pm_l_edge an_l_edge cd_l_edge ct_l_edge), sl_l_edge⟩)
    (c_l_edge : PySem.W.codeIn K cd_l_edge "_law_edge" = true)
    (k_l_edge : PySem.W.keepIn K (.ref f_l_edge) = true)
    (a_l_span : PySem.W.nsIn K mainGlobals "_law_span" = some (some (.ref f_l_span)))
    (l_l_span : K.lookup f_l_span = some ⟨oc_l_span, od_l_span, .func (PySem.W.fnOf "_law_span" "_law_span" (defArgs s_l_span) (defBody s_l_span) (defScope s_l_span) .none kV_l_span dc_l_span pm_l_span an_l_span cd_l_span ct_l_span), sl_l_span⟩)
    (c_l_span : PySem.W.codeIn K cd_l_span "_law_span" = true)
    (k_l_span : PySem.W.keepIn K (.ref f_l_span) = true)
    (a_l_spans : PySem.W.nsIn K mainGlobals "_law_spans" = some (some (.ref f_l_spans)))
    (l_l_spans : K.lookup f_l_spans = some ⟨oc_l_spans, od_l_spans, .func (PySem.W.fnOf "_law_spans" "_law_spans" (defArgs s_l_spans) (defBody s_l_spans) (defScope s_l_spans) .none kV_l_spans dc_l_spans pm_l_spans an_l_spans cd_l_spans ct_l_spans), sl_l_spans⟩)
    (c_l_spans : PySem.W.codeIn K cd_l_spans "_law_spans" = true)
    (k_l_spans : PySem.W.keepIn K (.ref f_l_spans) = true)
    (a_l_window : PySem.W.nsIn K mainGlobals "_law_window" = some (some (.ref f_l_window)))
    (l_l_window : K.lookup f_l_window = some ⟨oc_l_window, od_l_window, .func (PySem.W.fnOf "_law_window" "_law_window" (defArgs s_l_window) (defBody s_l_window) (defScope s_l_window) .none kV_l_window dc_l_window pm_l_window an_l_window cd_l_window ct_l_window), sl_l_window⟩)
    (c_l_window : PySem.W.codeIn K cd_l_window "_law_window" = true)
    (k_l_window : PySem.W.keepIn K (.ref f_l_window) = true)
    (a_l_meets : PySem.W.nsIn K mainGlobals "_law_meets" = some (some (.ref f_l_meets)))
    (l_l_meets : K.lookup f_l_meets = some ⟨oc_l_meets, od_l_meets, .func (PySem.W.fnOf "_law_meets" "_law_meets" (defArgs s_l_meets) (defBody s_l_meets) (defScope s_l_meets) .none kV_l_meets dc_l_meets pm_l_meets an_l_meets cd_l_meets ct_l_meets), sl_l_meets⟩)
    (c_l_meets : PySem.W.codeIn K cd_l_meets "_law_meets" = true)
    (k_l_meets : PySem.W.keepIn K (.ref f_l_meets) = true)
    (a_l_pieces : PySem.W.nsIn K mainGlobals "_law_pieces" = some (some (.ref f_l_pieces)))
    (l_l_pieces : K.lookup f_l_pieces = some ⟨oc_l_pieces, od_l_pieces, .func (PySem.W.fnOf "_law_pieces" "_law_pieces" (defArgs s_l_pieces) (defBody s_l_pieces) (defScope s_l_pieces) .none kV_l_pieces dc_l_pieces pm_l_pieces an_l_pieces cd_l_pieces ct_l_pieces), sl_l_pieces⟩)
    (c_l_pieces : PySem.W.codeIn K cd_l_pieces "_law_pieces" = true)
    (k_l_pieces : PySem.W.keepIn K (.ref f_l_pieces) = true)
    (a_has_clash : PySem.W.nsIn K mainGlobals "has_clash" = some (some (.ref f_has_clash)))
    (l_has_clash : K.lookup f_has_clash = some ⟨oc_has_clash, od_has_clash, .func (PySem.W.fnOf "has_clash" "has_clash" (defArgs s_has_clash) (defBody s_has_clash) (defScope s_has_clash) .none kV_has_clash dc_has_clash pm_has_clash an_has_clash cd_has_clash ct_has_clash), sl_has_clash⟩)
    (c_has_clash : PySem.W.codeIn K cd_has_clash "has_clash" = true)
    (k_has_clash : PySem.W.keepIn K (.ref f_has_clash) = true)
    (a_has_cover : PySem.W.nsIn K mainGlobals "has_cover" = some (some (.ref f_has_cover)))
    (l_has_cover : K.lookup f_has_cover = some ⟨oc_has_cover, od_has_cover, .func (PySem.W.fnOf "has_cover" "has_cover" (defArgs s_has_cover) (defBody s_has_cover) (defScope s_has_cover) .none kV_has_cover dc_has_cover pm_has_cover an_has_cover cd_has_cover ct_has_cover), sl_has_cover⟩)
    (c_has_cover : PySem.W.codeIn K cd_has_cover "has_cover" = true)
    (k_has_cover : PySem.W.keepIn K (.ref f_has_cover) = true)
    (a_l_answer : PySem.W.nsIn K mainGlobals "_law_answer" = some (some (.ref f_l_answer)))
    (l_l_answer : K.lookup f_l_answer = some ⟨oc_l_answer, od_l_answer, .func (PySem.W.fnOf "_law_answer" "_law_answer" (defArgs s_l_answer) (defBody s_l_answer) (defScope s_l_answer) .none kV_l_answer dc_l_answer pm_l_answer an_l_answer cd_l_answer ct_l_answer), sl_l_answer⟩)
    (c_l_answer : PySem.W.codeIn K cd_l_answer "_law_answer" = true)
    (k_l_answer : PySem.W.keepIn K (.ref f_l_answer) = true)
    (a_Answer_init : PySem.W.findIn K (.ref C) "__init__" = some (some (.ref f_Answer_init)))
    (l_Answer_init : K.lookup f_Answer_init = some ⟨oc_Answer_init, od_Answer_init, .func (PySem.W.fnOf "__init__" "Answer.__init__" (defArgs s_Answer_init) (defBody s_Answer_init) (defScope s_Answer_init) .none (.ref D_Answer_init) dc_Answer_init pm_Answer_init an_Answer_init cd_Answer_init ct_Answer_init), sl_Answer_init⟩)
    (c_Answer_init : PySem.W.codeIn K cd_Answer_init "Answer.__init__" = true)
    (k_Answer_init : PySem.W.keepIn K (.ref f_Answer_init) = true)
    (i_Answer_init : PySem.W.isFn K (.ref f_Answer_init) = true)
    (n0_Answer_init : PySem.W.nsIn K D_Answer_init "ends" = some (some (.str "half" u0_Answer_init)))
    (a_Answer_uses_window : PySem.W.findIn K (.ref C) "uses_window" = some (some (.ref P_Answer_uses_window)))
    (g_Answer_uses_window : PySem.W.specialIn K (.ref P_Answer_uses_window) "__get__" = some (some (.builtin "property.__get__")))
    (t_Answer_uses_window : PySem.W.takesIn K (.ref P_Answer_uses_window) = some true)
    (r_Answer_uses_window : PySem.W.recIn K P_Answer_uses_window "property" = some (.ref f_Answer_uses_window :: rest_Answer_uses_window))
    (l_Answer_uses_window : K.lookup f_Answer_uses_window = some ⟨oc_Answer_uses_window, od_Answer_uses_window, .func (PySem.W.fnOf "uses_window" "Answer.uses_window" (defArgs s_Answer_uses_window) (defBody s_Answer_uses_window) (defScope s_Answer_uses_window) .none kV_Answer_uses_window dc_Answer_uses_window pm_Answer_uses_window an_Answer_uses_window cd_Answer_uses_window ct_Answer_uses_window), sl_Answer_uses_window⟩)
    (c_Answer_uses_window : PySem.W.codeIn K cd_Answer_uses_window "Answer.uses_window" = true)
    (k_Answer_uses_window : PySem.W.keepIn K (.ref f_Answer_uses_window) = true)
    (a_check_need : PySem.W.nsIn K mainGlobals "check_need" = some (some (.ref f_check_need)))
    (l_check_need : K.lookup f_check_need = some ⟨oc_check_need, od_check_need, .func (PySem.W.fnOf "check_need" "check_need" (defArgs s_check_need) (defBody s_check_need) (defScope s_check_need) .none kV_check_need dc_check_need pm_check_need an_check_need cd_check_need ct_check_need), sl_check_need⟩)
    (c_check_need : PySem.W.codeIn K cd_check_need "check_need" = true)
    (k_check_need : PySem.W.keepIn K (.ref f_check_need) = true)
    (a_Answer_wished : PySem.W.findIn K (.ref C) "wished" = some (some (.ref f_Answer_wished)))
    (l_Answer_wished : K.lookup f_Answer_wished = some ⟨oc_Answer_wished, od_Answer_wished, .func (PySem.W.fnOf "wished" "Answer.wished" (defArgs s_Answer_wished) (defBody s_Answer_wished) (defScope s_Answer_wished) (.ref T_Answer_wished) kV_Answer_wished dc_Answer_wished pm_Answer_wished an_Answer_wished cd_Answer_wished ct_Answer_wished), sl_Answer_wished⟩)
    (c_Answer_wished : PySem.W.codeIn K cd_Answer_wished "Answer.wished" = true)
    (k_Answer_wished : PySem.W.keepIn K (.ref f_Answer_wished) = true)
    (i_Answer_wished : PySem.W.isFn K (.ref f_Answer_wished) = true)
    (T1_Answer_wished : K.lookup T_Answer_wished = some o_Answer_wished)
    (T2_Answer_wished : o_Answer_wished.data = .seq its_Answer_wished.toArray n_Answer_wished)
    (T3_Answer_wished : Vals [.non] its_Answer_wished)
    (a_law : PySem.W.nsIn K mainGlobals "law" = some (some (.ref f_law)))
    (l_law : K.lookup f_law = some ⟨oc_law, od_law, .func (PySem.W.fnOf "law" "law" (defArgs s_law) (defBody s_law) (defScope s_law) .none kV_law dc_law pm_law an_law cd_law ct_law), sl_law⟩)
    (c_law : PySem.W.codeIn K cd_law "law" = true)
    (k_law : PySem.W.keepIn K (.ref f_law) = true)
    : ∃ fd : FuncData, (∀ (s : Shared) (v : Value), BindsTo s fd ⟨[v], []⟩ [("_law_script", v)]) ∧ ∀ bh : Heap, K.In bh → bh.Ns mainGlobals mg → FnG l.prog w K mg bh 12 fa fd ["_law_script"] (sp_law K) := by
  have e := hfa.symm.trans (PySem.W.mg_of X G a_law)
  cases e
  have B : Blt mg := ⟨PySem.W.mg_none_of X G z_abs, PySem.W.mg_none_of X G z_any, PySem.W.mg_none_of X G z_bool, PySem.W.mg_none_of X G z_enumerate, PySem.W.mg_none_of X G z_int, PySem.W.mg_none_of X G z_isinstance, PySem.W.mg_none_of X G z_len, PySem.W.mg_none_of X G z_list, PySem.W.mg_none_of X G z_max, PySem.W.mg_none_of X G z_min, PySem.W.mg_none_of X G z_range, PySem.W.mg_none_of X G z_sorted, PySem.W.mg_none_of X G z_tuple⟩
  have T : Txt K mg := ⟨⟨t_FIRST, PySem.W.mg_of X G c_FIRST⟩, ⟨t_LAST, PySem.W.mg_of X G c_LAST⟩, ⟨t_FAR, PySem.W.mg_of X G c_FAR⟩, ⟨⟨CE, .type "type", _, _, PySem.W.mg_of X G e_g, ⟨e_rd, e_ga⟩, ⟨e_1, ⟨_, rfl⟩⟩, ⟨e_2, ⟨_, rfl⟩⟩⟩⟩⟩
  have F_is_number := fun_mk (st := s_is_number) l_is_number c_is_number k_is_number
  have b_is_number := F_is_number.binds (ps := ["value"]) fun _ _ _ _ _ _ us hl => match us, hl with | [_], _ => rfl
  have F_is_edge := fun_mk (st := s_is_edge) l_is_edge c_is_edge k_is_edge
  have b_is_edge := F_is_edge.binds (ps := ["value"]) fun _ _ _ _ _ _ us hl => match us, hl with | [_], _ => rfl
  have F_is_pair := fun_mk (st := s_is_pair) l_is_pair c_is_pair k_is_pair
  have b_is_pair := F_is_pair.binds (ps := ["value"]) fun _ _ _ _ _ _ us hl => match us, hl with | [_], _ => rfl
  have F_is_stretch := fun_mk (st := s_is_stretch) l_is_stretch c_is_stretch k_is_stretch
  have b_is_stretch := F_is_stretch.binds (ps := ["value"]) fun _ _ _ _ _ _ us hl => match us, hl with | [_], _ => rfl
  have F_is_window := fun_mk (st := s_is_window) l_is_window c_is_window k_is_window
  have b_is_window := F_is_window.binds (ps := ["value"]) fun _ _ _ _ _ _ us hl => match us, hl with | [_], _ => rfl
  have F_check_ends := fun_mk (st := s_check_ends) l_check_ends c_check_ends k_check_ends
  have b_check_ends := F_check_ends.binds (ps := ["ends"]) fun _ _ _ _ _ _ us hl => match us, hl with | [_], _ => rfl
  have F_check_stretches := fun_mk (st := s_check_stretches) l_check_stretches c_check_stretches k_check_stretches
  have b_check_stretches := F_check_stretches.binds (ps := ["spans"]) fun _ _ _ _ _ _ us hl => match us, hl with | [_], _ => rfl
  have F_is_empty : FunD K "is_empty" "is_empty" (defArgs s_is_empty) (defBody s_is_empty) (defScope s_is_empty) [.str "half"] [] f_is_empty _ := ⟨⟨oc_is_empty, od_is_empty, .ref T_is_empty, kV_is_empty, dc_is_empty, pm_is_empty, an_is_empty, cd_is_empty, ct_is_empty, sl_is_empty, rfl, l_is_empty, c_is_empty, .inr ⟨(fun z => nomatch z), T_is_empty, o_is_empty, its_is_empty, n_is_empty, rfl, T1_is_empty, T2_is_empty, T3_is_empty⟩, .inl rfl⟩, k_is_empty⟩
  have b_is_empty := bindsFull (ps := ["pair", "ends"]) F_is_empty (fun z => nomatch z) fun _ _ _ _ _ _ _ us its h1 h2 => match us, its, h1, h2 with | [_, _], [_], _, _ => ⟨_, rfl, rfl⟩
  have b1_is_empty := FunD.binds1 (ps := ["pair", "ends"]) F_is_empty 1 0 (fun z => nomatch z) rfl fun _ _ _ _ _ _ _ us its h1 h2 => match us, its, h1, h2 with | [_], [_], _, _ => ⟨_, rfl, rfl⟩
  have F_join_sorted := fun_mk (st := s_join_sorted) l_join_sorted c_join_sorted k_join_sorted
  have b_join_sorted := F_join_sorted.binds (ps := ["spans"]) fun _ _ _ _ _ _ us hl => match us, hl with | [_], _ => rfl
  have F_union : FunD K "union" "union" (defArgs s_union) (defBody s_union) (defScope s_union) [.str "half"] [] f_union _ := ⟨⟨oc_union, od_union, .ref T_union, kV_union, dc_union, pm_union, an_union, cd_union, ct_union, sl_union, rfl, l_union, c_union, .inr ⟨(fun z => nomatch z), T_union, o_union, its_union, n_union, rfl, T1_union, T2_union, T3_union⟩, .inl rfl⟩, k_union⟩
  have b_union := bindsFull (ps := ["spans", "ends"]) F_union (fun z => nomatch z) fun _ _ _ _ _ _ _ us its h1 h2 => match us, its, h1, h2 with | [_, _], [_], _, _ => ⟨_, rfl, rfl⟩
  have b1_union := FunD.binds1 (ps := ["spans", "ends"]) F_union 1 0 (fun z => nomatch z) rfl fun _ _ _ _ _ _ _ us its h1 h2 => match us, its, h1, h2 with | [_], [_], _, _ => ⟨_, rfl, rfl⟩
  have F_touches := fun_mk (st := s_touches) l_touches c_touches k_touches
  have b_touches := F_touches.binds (ps := ["span", "window", "ends"]) fun _ _ _ _ _ _ us hl => match us, hl with | [_, _, _], _ => rfl
  have F_check_window := fun_mk (st := s_check_window) l_check_window c_check_window k_check_window
  have b_check_window := F_check_window.binds (ps := ["window"]) fun _ _ _ _ _ _ us hl => match us, hl with | [_], _ => rfl
  have F_check_word := fun_mk (st := s_check_word) l_check_word c_check_word k_check_word
  have b_check_word := F_check_word.binds (ps := ["word", "words"]) fun _ _ _ _ _ _ us hl => match us, hl with | [_, _], _ => rfl
  have F_l_bag := fun_mk (st := s_l_bag) l_l_bag c_l_bag k_l_bag
  have b_l_bag := F_l_bag.binds (ps := ["_law_script", "_law_at"]) fun _ _ _ _ _ _ us hl => match us, hl with | [_, _], _ => rfl
  have F_l_take := fun_mk (st := s_l_take) l_l_take c_l_take k_l_take
  have b_l_take := F_l_take.binds (ps := ["_law_bag_here", "_law_many"]) fun _ _ _ _ _ _ us hl => match us, hl with | [_, _], _ => rfl
  have F_l_of := fun_mk (st := s_l_of) l_l_of c_l_of k_l_of
  have b_l_of := F_l_of.binds (ps := ["_law_bag_here", "_law_some"]) fun _ _ _ _ _ _ us hl => match us, hl with | [_, _], _ => rfl
  have F_l_edge := fun_mk (st := s_l_edge) l_l_edge c_l_edge k_l_edge
  have b_l_edge := F_l_edge.binds (ps := ["_law_bag_here", "_law_near"]) fun _ _ _ _ _ _ us hl => match us, hl with | [_, _], _ => rfl
  have F_l_span := fun_mk (st := s_l_span) l_l_span c_l_span k_l_span
  have b_l_span := F_l_span.binds (ps := ["_law_bag_here", "_law_near"]) fun _ _ _ _ _ _ us hl => match us, hl with | [_, _], _ => rfl
  have F_l_spans := fun_mk (st := s_l_spans) l_l_spans c_l_spans k_l_spans
  have b_l_spans := F_l_spans.binds (ps := ["_law_bag_here", "_law_most", "_law_near"]) fun _ _ _ _ _ _ us hl => match us, hl with | [_, _, _], _ => rfl
  have F_l_window := fun_mk (st := s_l_window) l_l_window c_l_window k_l_window
  have b_l_window := F_l_window.binds (ps := ["_law_bag_here", "_law_near"]) fun _ _ _ _ _ _ us hl => match us, hl with | [_, _], _ => rfl
  have F_l_meets := fun_mk (st := s_l_meets) l_l_meets c_l_meets k_l_meets
  have b_l_meets := F_l_meets.binds (ps := ["_law_pair", "_law_other", "_law_word"]) fun _ _ _ _ _ _ us hl => match us, hl with | [_, _, _], _ => rfl
  have F_l_pieces := fun_mk (st := s_l_pieces) l_l_pieces c_l_pieces k_l_pieces
  have b_l_pieces := F_l_pieces.binds (ps := ["_law_spans_here", "_law_word"]) fun _ _ _ _ _ _ us hl => match us, hl with | [_, _], _ => rfl
  have F_has_clash := fun_mk (st := s_has_clash) l_has_clash c_has_clash k_has_clash
  have b_has_clash := F_has_clash.binds (ps := ["spans", "ends"]) fun _ _ _ _ _ _ us hl => match us, hl with | [_, _], _ => rfl
  have F_has_cover := fun_mk (st := s_has_cover) l_has_cover c_has_cover k_has_cover
  have b_has_cover := F_has_cover.binds (ps := ["spans", "window", "ends"]) fun _ _ _ _ _ _ us hl => match us, hl with | [_, _, _], _ => rfl
  have F_l_answer := fun_mk (st := s_l_answer) l_l_answer c_l_answer k_l_answer
  have b_l_answer := F_l_answer.binds (ps := ["_law_term", "_law_spans_here", "_law_pair", "_law_word"]) fun _ _ _ _ _ _ us hl => match us, hl with | [_, _, _, _], _ => rfl
  have F_Answer_init : FunD K "__init__" "Answer.__init__" (defArgs s_Answer_init) (defBody s_Answer_init) (defScope s_Answer_init) [] [("ends", .str "half")] f_Answer_init _ := ⟨⟨oc_Answer_init, od_Answer_init, .none, .ref D_Answer_init, dc_Answer_init, pm_Answer_init, an_Answer_init, cd_Answer_init, ct_Answer_init, sl_Answer_init, rfl, l_Answer_init, c_Answer_init, .inl ⟨rfl, rfl⟩, .inr ⟨D_Answer_init, rfl, fun q hq => by (rcases List.mem_cons.mp hq with rfl | hq; exact ⟨_, n0_Answer_init, ⟨_, rfl⟩⟩; exact absurd hq (List.not_mem_nil))⟩⟩, k_Answer_init⟩
  have b1_Answer_init := FunD.binds0 (ps := ["self", "what", "ends"]) F_Answer_init 2 (fun z => nomatch z) rfl fun _ _ _ _ _ _ us ks h1 h2 => match us, ks, h1, h2 with | [_, _], [_], _, _ => ⟨_, _, _, _, _, _, rfl, rfl, rfl⟩
  have kb_Answer_init := FunD.kbinds0 (ps := ["self", "what", "ends"]) F_Answer_init 2 ["ends"] [] (fun us _ ws => us ++ ws) (fun z => nomatch z) (fun _ h => nomatch h) (fun r1 _ r3 => r1.append r3) fun _ _ _ _ _ _ us mv ws h1 h2 h3 => match us, mv, ws, h1, h2, h3 with | [_, _], [], [_], _, _, _ => rfl
  have F_Answer_uses_window := fun_mk (st := s_Answer_uses_window) l_Answer_uses_window c_Answer_uses_window k_Answer_uses_window
  have b_Answer_uses_window := F_Answer_uses_window.binds (ps := ["self"]) fun _ _ _ _ _ _ us hl => match us, hl with | [_], _ => rfl
  have F_check_need := fun_mk (st := s_check_need) l_check_need c_check_need k_check_need
  have b_check_need := F_check_need.binds (ps := ["wish", "window"]) fun _ _ _ _ _ _ us hl => match us, hl with | [_, _], _ => rfl
  have F_Answer_wished : FunD K "wished" "Answer.wished" (defArgs s_Answer_wished) (defBody s_Answer_wished) (defScope s_Answer_wished) [.non] [] f_Answer_wished _ := ⟨⟨oc_Answer_wished, od_Answer_wished, .ref T_Answer_wished, kV_Answer_wished, dc_Answer_wished, pm_Answer_wished, an_Answer_wished, cd_Answer_wished, ct_Answer_wished, sl_Answer_wished, rfl, l_Answer_wished, c_Answer_wished, .inr ⟨(fun z => nomatch z), T_Answer_wished, o_Answer_wished, its_Answer_wished, n_Answer_wished, rfl, T1_Answer_wished, T2_Answer_wished, T3_Answer_wished⟩, .inl rfl⟩, k_Answer_wished⟩
  have b_Answer_wished := bindsFull (ps := ["self", "spans", "window"]) F_Answer_wished (fun z => nomatch z) fun _ _ _ _ _ _ _ us its h1 h2 => match us, its, h1, h2 with | [_, _, _], [_], _, _ => ⟨_, rfl, rfl⟩
  have b1_Answer_wished := FunD.binds1 (ps := ["self", "spans", "window"]) F_Answer_wished 2 0 (fun z => nomatch z) rfl fun _ _ _ _ _ _ _ us its h1 h2 => match us, its, h1, h2 with | [_, _], [_], _, _ => ⟨_, rfl, rfl⟩
  have F_law := fun_mk (st := s_law) l_law c_law k_law
  refine ⟨PySem.W.fnOf "law" "law" (defArgs s_law) (defBody s_law) (defScope s_law) .none kV_law dc_law pm_law an_law cd_law ct_law, fun s v => .of_eq rfl, fun bh _ _ => ?_⟩
  have AC : AnsC K C := ⟨⟨c_pg, c_hd, c_po, c_sa⟩, c_nW, c_nE⟩
  have AW : WordsT K mg "ANSWERS" [.str "busy", .str "covered", .str "clash"] := ⟨WA, PySem.W.mg_of X G w_at, fun _ => .inr ⟨o_W, its_W.toArray, n_W, w_1, w_4, w_2, w_5, by simpa using w_3⟩⟩
  have R_is_number : Rdy l.prog w K mg bh "is_number" 1 ["value"] (sp_is_number K) f_is_number _ := ⟨ok_is_number B T  F_is_number, PySem.W.mg_of X G a_is_number, k_is_number, b_is_number⟩
  have R_is_edge : Rdy l.prog w K mg bh "is_edge" 2 ["value"] (sp_is_edge K) f_is_edge _ := ⟨ok_is_edge B T R_is_number F_is_edge, PySem.W.mg_of X G a_is_edge, k_is_edge, b_is_edge⟩
  have R_is_pair : Rdy l.prog w K mg bh "is_pair" 3 ["value"] (sp_is_pair K) f_is_pair _ := ⟨ok_is_pair B T R_is_edge F_is_pair, PySem.W.mg_of X G a_is_pair, k_is_pair, b_is_pair⟩
  have R_is_stretch : Rdy l.prog w K mg bh "is_stretch" 4 ["value"] (sp_is_stretch K) f_is_stretch _ := ⟨ok_is_stretch B T R_is_pair F_is_stretch, PySem.W.mg_of X G a_is_stretch, k_is_stretch, b_is_stretch⟩
  have R_is_window : Rdy l.prog w K mg bh "is_window" 4 ["value"] (sp_is_window K) f_is_window _ := ⟨ok_is_window B T R_is_pair F_is_window, PySem.W.mg_of X G a_is_window, k_is_window, b_is_window⟩
  have R_check_ends : Rdy l.prog w K mg bh "check_ends" 1 ["ends"] (sp_check_ends K) f_check_ends _ := ⟨ok_check_ends B T  F_check_ends, PySem.W.mg_of X G a_check_ends, k_check_ends, b_check_ends⟩
  have R_check_stretches : Rdy l.prog w K mg bh "check_stretches" 5 ["spans"] (sp_check_stretches K) f_check_stretches _ := ⟨ok_check_stretches B T R_is_stretch F_check_stretches, PySem.W.mg_of X G a_check_stretches, k_check_stretches, b_check_stretches⟩
  have R_is_empty : RdyD l.prog w K mg bh "is_empty" 2 ["pair", "ends"] [.str "half"] (sp_is_empty K) f_is_empty _ := ⟨ok_is_empty B T R_check_ends F_is_empty, PySem.W.mg_of X G a_is_empty, k_is_empty, b_is_empty, b1_is_empty⟩
  have R_join_sorted : Rdy l.prog w K mg bh "join_sorted" 1 ["spans"] (sp_join_sorted K) f_join_sorted _ := ⟨ok_join_sorted B T  F_join_sorted, PySem.W.mg_of X G a_join_sorted, k_join_sorted, b_join_sorted⟩
  have R_union : RdyD l.prog w K mg bh "union" 6 ["spans", "ends"] [.str "half"] (sp_union K) f_union _ := ⟨ok_union B T R_check_stretches R_check_ends R_join_sorted R_is_empty F_union, PySem.W.mg_of X G a_union, k_union, b_union, b1_union⟩
  have R_touches : Rdy l.prog w K mg bh "touches" 3 ["span", "window", "ends"] (sp_touches K) f_touches _ := ⟨ok_touches B T R_is_empty F_touches, PySem.W.mg_of X G a_touches, k_touches, b_touches⟩
  have R_check_window : Rdy l.prog w K mg bh "check_window" 5 ["window"] (sp_check_window K) f_check_window _ := ⟨ok_check_window B T R_is_window F_check_window, PySem.W.mg_of X G a_check_window, k_check_window, b_check_window⟩
  have R_check_word : Rdy l.prog w K mg bh "check_word" 1 ["word", "words"] (sp_check_word K) f_check_word _ := ⟨ok_check_word B T  F_check_word, PySem.W.mg_of X G a_check_word, k_check_word, b_check_word⟩
  have R_l_bag : Rdy l.prog w K mg bh "_law_bag" 1 ["_law_script", "_law_at"] (sp_l_bag K) f_l_bag _ := ⟨ok_l_bag B T  F_l_bag, PySem.W.mg_of X G a_l_bag, k_l_bag, b_l_bag⟩
  have R_l_take : Rdy l.prog w K mg bh "_law_take" 1 ["_law_bag_here", "_law_many"] (sp_l_take K) f_l_take _ := ⟨ok_l_take B T  F_l_take, PySem.W.mg_of X G a_l_take, k_l_take, b_l_take⟩
  have R_l_of : Rdy l.prog w K mg bh "_law_of" 2 ["_law_bag_here", "_law_some"] (sp_l_of K) f_l_of _ := ⟨ok_l_of B T R_l_take F_l_of, PySem.W.mg_of X G a_l_of, k_l_of, b_l_of⟩
  have R_l_edge : Rdy l.prog w K mg bh "_law_edge" 3 ["_law_bag_here", "_law_near"] (sp_l_edge K) f_l_edge _ := ⟨ok_l_edge B T R_l_of R_l_take F_l_edge, PySem.W.mg_of X G a_l_edge, k_l_edge, b_l_edge⟩
  have R_l_span : Rdy l.prog w K mg bh "_law_span" 4 ["_law_bag_here", "_law_near"] (sp_l_span K) f_l_span _ := ⟨ok_l_span B T R_l_take R_l_edge F_l_span, PySem.W.mg_of X G a_l_span, k_l_span, b_l_span⟩
  have R_l_spans : Rdy l.prog w K mg bh "_law_spans" 5 ["_law_bag_here", "_law_most", "_law_near"] (sp_l_spans K) f_l_spans _ := ⟨ok_l_spans B T R_l_take R_l_of R_l_span F_l_spans, PySem.W.mg_of X G a_l_spans, k_l_spans, b_l_spans⟩
  have R_l_window : Rdy l.prog w K mg bh "_law_window" 3 ["_law_bag_here", "_law_near"] (sp_l_window K) f_l_window _ := ⟨ok_l_window B T R_l_take R_l_of F_l_window, PySem.W.mg_of X G a_l_window, k_l_window, b_l_window⟩
  have R_l_meets : Rdy l.prog w K mg bh "_law_meets" 1 ["_law_pair", "_law_other", "_law_word"] (sp_l_meets K) f_l_meets _ := ⟨ok_l_meets B T  F_l_meets, PySem.W.mg_of X G a_l_meets, k_l_meets, b_l_meets⟩
  have R_l_pieces : Rdy l.prog w K mg bh "_law_pieces" 1 ["_law_spans_here", "_law_word"] (sp_l_pieces K) f_l_pieces _ := ⟨ok_l_pieces B T  F_l_pieces, PySem.W.mg_of X G a_l_pieces, k_l_pieces, b_l_pieces⟩
  have R_has_clash : Rdy l.prog w K mg bh "has_clash" 3 ["spans", "ends"] (sp_has_clash K) f_has_clash _ := ⟨ok_has_clash B T R_is_empty F_has_clash, PySem.W.mg_of X G a_has_clash, k_has_clash, b_has_clash⟩
  have R_has_cover : Rdy l.prog w K mg bh "has_cover" 7 ["spans", "window", "ends"] (sp_has_cover K) f_has_cover _ := ⟨ok_has_cover B T R_union F_has_cover, PySem.W.mg_of X G a_has_cover, k_has_cover, b_has_cover⟩
  have R_l_answer : Rdy l.prog w K mg bh "_law_answer" 2 ["_law_term", "_law_spans_here", "_law_pair", "_law_word"] (sp_l_answer K) f_l_answer _ := ⟨ok_l_answer B T R_l_meets R_l_pieces F_l_answer, PySem.W.mg_of X G a_l_answer, k_l_answer, b_l_answer⟩
  have MA : RdyMk l.prog w K mg bh "Answer" C 2 ["self", "what", "ends"] [.str "half"] (sp_Answer_init K C) f_Answer_init _ := ⟨ok_Answer_init B T AC AW R_check_word R_check_ends F_Answer_init, ⟨c_mk, a_Answer_init, i_Answer_init, c_kc⟩, PySem.W.mg_of X G c_at, b1_Answer_init, kb_Answer_init.elim fun _ h => ⟨_, h⟩⟩
  have RU : RdyPr l.prog w K mg bh C "uses_window" 2 (sp_Answer_uses K C) P_Answer_uses_window f_Answer_uses_window _ := ⟨ok_Answer_uses_window B T AC F_Answer_uses_window, ⟨a_Answer_uses_window, g_Answer_uses_window, t_Answer_uses_window, rest_Answer_uses_window, r_Answer_uses_window⟩, b_Answer_uses_window⟩
  have R_check_need : Rdy l.prog w K mg bh "check_need" 4 ["wish", "window"] (sp_check_need K C) f_check_need _ := ⟨ok_check_need B T AC RU F_check_need, PySem.W.mg_of X G a_check_need, k_check_need, b_check_need⟩
  have MW : RdyMt l.prog w K mg bh C "wished" 8 ["self", "spans", "window"] [.non] (sp_Answer_wished K C) f_Answer_wished _ := ⟨ok_Answer_wished B T AC R_check_stretches R_check_window R_check_need R_has_clash R_has_cover R_touches F_Answer_wished, ⟨a_Answer_wished, i_Answer_wished, k_Answer_wished⟩, b_Answer_wished, b1_Answer_wished⟩
  exact ok_law B T AC MA MW R_l_bag R_l_spans R_l_window R_l_take R_l_answer F_law
end
end Spk
open PySem PySem.W PyProof.Rows
set_option maxHeartbeats 0 in
theorem PySem.Challenge.cw_spanloops_k33_answers_wished_holds : PySem.Challenge.rw_spanloops_k33_answers_wished.Holds := by
  w_on; o_law; k_head; (case hw => w_witness2)
  k_fill
  refine Spk.walkG (l := PySem.Challenge.rw_spanloops_k33_answers_wished) (n := 63) (k := 12) (x := "_law_script") (sp := fun w => Spk.sp_law _) rfl (by decide) rfl ⟨rfl, by decide, by decide⟩ (fun w h Y => PySem.W.kIn_of Y) ?F (fun _ _ a ns hl _ hS => ⟨a, ns, rfl, hS, hl, fun _ => rfl⟩)
  case F =>
    intro w mg fa h KX G hmg
    refine' Spk.all_mk KX G hmg ?z_abs ?z_any ?z_bool ?z_enumerate ?z_int ?z_isinstance ?z_len ?z_list ?z_max ?z_min ?z_range ?z_sorted ?z_tuple ?c_FIRST ?c_LAST ?c_FAR ?e_g ?e_rd ?e_ga ?e_1 ?e_2 ?c_at ?c_pg ?c_hd ?c_po ?c_sa ?c_mk ?c_kc ?c_nW ?c_nE ?w_at ?w_1 ?w_2 ?w_3 ?w_4 ?w_5 ?a_is_number ?l_is_number ?c_is_number ?k_is_number ?a_is_edge ?l_is_edge ?c_is_edge ?k_is_edge ?a_is_pair ?l_is_pair ?c_is_pair ?k_is_pair ?a_is_stretch ?l_is_stretch ?c_is_stretch ?k_is_stretch ?a_is_window ?l_is_window ?c_is_window ?k_is_window ?a_check_ends ?l_check_ends ?c_check_ends ?k_check_ends ?a_check_stretches ?l_check_stretches ?c_check_stretches ?k_check_stretches ?a_is_empty ?l_is_empty ?c_is_empty ?k_is_empty ?T1_is_empty ?T2_is_empty ?T3_is_empty ?a_join_sorted ?l_join_sorted ?c_join_sorted ?k_join_sorted ?a_union ?l_union ?c_union ?k_union ?T1_union ?T2_union ?T3_union ?a_touches ?l_touches ?c_touches ?k_touches ?a_check_window ?l_check_window ?c_check_window ?k_check_window ?a_check_word ?l_check_word ?c_check_word ?k_check_word ?a_l_bag ?l_l_bag ?c_l_bag ?k_l_bag ?a_l_take ?l_l_take ?c_l_take ?k_l_take ?a_l_of ?l_l_of ?c_l_of ?k_l_of ?a_l_edge ?l_l_edge ?c_l_edge ?k_l_edge ?a_l_span ?l_l_span ?c_l_span ?k_l_span ?a_l_spans ?l_l_spans ?c_l_spans ?k_l_spans ?a_l_window ?l_l_window ?c_l_window ?k_l_window ?a_l_meets ?l_l_meets ?c_l_meets ?k_l_meets ?a_l_pieces ?l_l_pieces ?c_l_pieces ?k_l_pieces ?a_has_clash ?l_has_clash ?c_has_clash ?k_has_clash ?a_has_cover ?l_has_cover ?c_has_cover ?k_has_cover ?a_l_answer ?l_l_answer ?c_l_answer ?k_l_answer ?a_Answer_init ?l_Answer_init ?c_Answer_init ?k_Answer_init ?i_Answer_init ?n0_Answer_init ?a_Answer_uses_window ?g_Answer_uses_window ?t_Answer_uses_window ?r_Answer_uses_window ?l_Answer_uses_window ?c_Answer_uses_window ?k_Answer_uses_window ?a_check_need ?l_check_need ?c_check_need ?k_check_need ?a_Answer_wished ?l_Answer_wished ?c_Answer_wished ?k_Answer_wished ?i_Answer_wished ?T1_Answer_wished ?T2_Answer_wished ?T3_Answer_wished ?a_law ?l_law ?c_law ?k_law
    (case z_abs => k_is)
    (case z_any => k_is)
    (case z_bool => k_is)
    (case z_enumerate => k_is)
    (case z_int => k_is)
    (case z_isinstance => k_is)
    (case z_len => k_is)
    (case z_list => k_is)
    (case z_max => k_is)
    (case z_min => k_is)
    (case z_range => k_is)
    (case z_sorted => k_is)
    (case z_tuple => k_is)
    (case c_FIRST => k_is)
    (case c_LAST => k_is)
    (case c_FAR => k_is)
    (case e_g => k_is)
    (case e_rd => k_is)
    (case e_ga => k_is)
    (case e_1 => k_is)
    (case e_2 => k_is)
    (case c_at => k_is)
    (case c_pg => k_is)
    (case c_hd => k_is)
    (case c_po => k_is)
    (case c_sa => k_is)
    (case c_mk => k_is)
    (case c_kc => k_is)
    (case c_nW => k_is)
    (case c_nE => k_is)
    (case w_at => k_is)
    (case w_1 => k_is)
    (case w_2 => first | rfl | k_is)
    (case w_3 => exact .cons ⟨_, rfl⟩ (.cons ⟨_, rfl⟩ (.cons ⟨_, rfl⟩ .nil)))
    (case w_4 => rfl)
    (case w_5 => decide +kernel)
    (case a_is_number => k_is)
    (case l_is_number => k_is)
    (case c_is_number => k_is)
    (case k_is_number => k_is)
    (case a_is_edge => k_is)
    (case l_is_edge => k_is)
    (case c_is_edge => k_is)
    (case k_is_edge => k_is)
    (case a_is_pair => k_is)
    (case l_is_pair => k_is)
    (case c_is_pair => k_is)
    (case k_is_pair => k_is)
    (case a_is_stretch => k_is)
    (case l_is_stretch => k_is)
    (case c_is_stretch => k_is)
    (case k_is_stretch => k_is)
    (case a_is_window => k_is)
    (case l_is_window => k_is)
    (case c_is_window => k_is)
    (case k_is_window => k_is)
    (case a_check_ends => k_is)
    (case l_check_ends => k_is)
    (case c_check_ends => k_is)
    (case k_check_ends => k_is)
    (case a_check_stretches => k_is)
    (case l_check_stretches => k_is)
    (case c_check_stretches => k_is)
    (case k_check_stretches => k_is)
    (case a_is_empty => k_is)
    (case l_is_empty => k_is)
    (case c_is_empty => k_is)
    (case k_is_empty => k_is)
    (case T1_is_empty => k_is)
    (case T2_is_empty => first | rfl | k_is)
    (case T3_is_empty => exact .cons ⟨_, rfl⟩ .nil)
    (case a_join_sorted => k_is)
    (case l_join_sorted => k_is)
    (case c_join_sorted => k_is)
    (case k_join_sorted => k_is)
    (case a_union => k_is)
    (case l_union => k_is)
    (case c_union => k_is)
    (case k_union => k_is)
    (case T1_union => k_is)
    (case T2_union => first | rfl | k_is)
    (case T3_union => exact .cons ⟨_, rfl⟩ .nil)
    (case a_touches => k_is)
    (case l_touches => k_is)
    (case c_touches => k_is)
    (case k_touches => k_is)
    (case a_check_window => k_is)
    (case l_check_window => k_is)
    (case c_check_window => k_is)
    (case k_check_window => k_is)
    (case a_check_word => k_is)
    (case l_check_word => k_is)
    (case c_check_word => k_is)
    (case k_check_word => k_is)
    (case a_l_bag => k_is)
    (case l_l_bag => k_is)
    (case c_l_bag => k_is)
    (case k_l_bag => k_is)
    (case a_l_take => k_is)
    (case l_l_take => k_is)
    (case c_l_take => k_is)
    (case k_l_take => k_is)
    (case a_l_of => k_is)
    (case l_l_of => k_is)
    (case c_l_of => k_is)
    (case k_l_of => k_is)
    (case a_l_edge => k_is)
    (case l_l_edge => k_is)
    (case c_l_edge => k_is)
    (case k_l_edge => k_is)
    (case a_l_span => k_is)
    (case l_l_span => k_is)
    (case c_l_span => k_is)
    (case k_l_span => k_is)
    (case a_l_spans => k_is)
    (case l_l_spans => k_is)
    (case c_l_spans => k_is)
    (case k_l_spans => k_is)
    (case a_l_window => k_is)
    (case l_l_window => k_is)
    (case c_l_window => k_is)
    (case k_l_window => k_is)
    (case a_l_meets => k_is)
    (case l_l_meets => k_is)
    (case c_l_meets => k_is)
    (case k_l_meets => k_is)
    (case a_l_pieces => k_is)
    (case l_l_pieces => k_is)
    (case c_l_pieces => k_is)
    (case k_l_pieces => k_is)
    (case a_has_clash => k_is)
    (case l_has_clash => k_is)
    (case c_has_clash => k_is)
    (case k_has_clash => k_is)
    (case a_has_cover => k_is)
    (case l_has_cover => k_is)
    (case c_has_cover => k_is)
    (case k_has_cover => k_is)
    (case a_l_answer => k_is)
    (case l_l_answer => k_is)
    (case c_l_answer => k_is)
    (case k_l_answer => k_is)
    (case a_Answer_init => k_is)
    (case l_Answer_init => k_is)
    (case c_Answer_init => k_is)
    (case k_Answer_init => k_is)
    (case i_Answer_init => k_is)
    (case n0_Answer_init => k_is)
    (case a_Answer_uses_window => k_is)
    (case g_Answer_uses_window => k_is)
    (case t_Answer_uses_window => k_is)
    (case r_Answer_uses_window => k_is)
    (case l_Answer_uses_window => k_is)
    (case c_Answer_uses_window => k_is)
    (case k_Answer_uses_window => k_is)
    (case a_check_need => k_is)
    (case l_check_need => k_is)
    (case c_check_need => k_is)
    (case k_check_need => k_is)
    (case a_Answer_wished => k_is)
    (case l_Answer_wished => k_is)
    (case c_Answer_wished => k_is)
    (case k_Answer_wished => k_is)
    (case i_Answer_wished => k_is)
    (case T1_Answer_wished => k_is)
    (case T2_Answer_wished => first | rfl | k_is)
    (case T3_Answer_wished => exact .cons rfl .nil)
    (case a_law => k_is)
    (case l_law => k_is)
    (case c_law => k_is)
    (case k_law => k_is)
