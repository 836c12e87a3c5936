import PyProof.Rows.All
import Wide.All
import OpenK.AllK
import Wide.FinOn
import PySem.Challenge.RW_spanloops_k03_whole_unions
import HandS.ForMost
import HandS.Wide
import HandS.Walk
import HandS.SortRule
import HandS.Defaults
import HandS.IsInst
import HandS.ClsMeth
import HandS.TupLe
import KE.GoesMore
import HandS.MakeKwOnly
import HandS.Property
import KE.KRevSl
import HandS.SortInts
import HandS.More
import HandS.Strs
import HandS.SetFor
import HandS.Rev
import HandS.RevTup
import KE.KDictZip
import KE.KTurns
set_option Elab.async false
set_option linter.all false
set_option maxRecDepth 100000
set_option maxHeartbeats 4000000
namespace Spk
/-! ### pairs of edges, the union as a function on lists of pairs -/
abbrev Pr := Int × Int
def ple (p q : Pr) : Prop := p.1 < q.1 ∨ (p.1 = q.1 ∧ p.2 ≤ q.2)
instance (p q : Pr) : Decidable (ple p q) := inferInstanceAs (Decidable (_ ∨ _))
theorem ple_trans {p q r : Pr} (a : ple p q) (b : ple q r) : ple p r := by unfold ple at *; omega
theorem ple_total (p q : Pr) : ple p q ∨ ple q p := by unfold ple; omega
theorem ple_anti {p q : Pr} (a : ple p q) (b : ple q p) : p = q := by
  obtain ⟨x, y⟩ := p; obtain ⟨z, w⟩ := q
  simp only [ple] at a b
  have : x = z := by omega
  have : y = w := by omega
  subst x; subst y; rfl
theorem ple_refl (p : Pr) : ple p p := by unfold ple; omega
def ins (p : Pr) : List Pr → List Pr
  | [] => [p]
  | q :: r => if ple p q then p :: q :: r else q :: ins p r
def srt : List Pr → List Pr
  | [] => []
  | p :: r => ins p (srt r)
theorem ins_perm (p : Pr) : ∀ l, (ins p l).Perm (p :: l)
  | [] => .refl _
  | q :: r => by
    unfold ins
    split
    · exact .refl _
    · exact ((ins_perm p r).cons q).trans (List.Perm.swap p q r)
theorem srt_perm : ∀ l, (srt l).Perm l
  | [] => .refl _
  | p :: r => (ins_perm p _).trans ((srt_perm r).cons p)
theorem ins_sorted (p : Pr) : ∀ l, l.Pairwise ple → (ins p l).Pairwise ple
  | [], _ => by simp [ins]
  | q :: r, h => by
    unfold ins
    have hq := List.pairwise_cons.mp h
    split
    · rename_i c
      refine List.pairwise_cons.mpr ⟨fun y hy => ?_, h⟩
      rcases List.mem_cons.mp hy with e | hy
      · exact e ▸ c
      · exact ple_trans c (hq.1 y hy)
    · rename_i c
      refine List.pairwise_cons.mpr ⟨fun y hy => ?_, ins_sorted p r hq.2⟩
      have := (ins_perm p r).mem_iff.mp hy
      rcases List.mem_cons.mp this with e | hy
      · rw [e]; exact (ple_total p q).resolve_left c
      · exact hq.1 y hy
theorem srt_sorted : ∀ l, (srt l).Pairwise ple
  | [] => List.Pairwise.nil
  | p :: r => ins_sorted p _ (srt_sorted r)
theorem sorted_uniq : ∀ {l m : List Pr}, l.Pairwise ple → m.Pairwise ple → l.Perm m → l = m
  | [], m, _, _, h => (List.Perm.nil_eq h)
  | x :: l, [], _, _, h => absurd h.length_eq (by simp)
  | x :: l, y :: m, hl, hm, h => by
    have h1 := List.pairwise_cons.mp hl
    have h2 := List.pairwise_cons.mp hm
    have a : ple x y := by
      rcases List.mem_cons.mp (h.mem_iff.mpr (List.mem_cons_self (a := y) (l := m))) with e | q
      · rw [e]; exact ple_refl x
      · exact h1.1 y q
    have b : ple y x := by
      rcases List.mem_cons.mp (h.mem_iff.mp (List.mem_cons_self (a := x) (l := l))) with e | q
      · rw [e]; exact ple_refl y
      · exact h2.1 x q
    have e := ple_anti a b
    subst e
    rw [sorted_uniq h1.2 h2.2 h.cons_inv]
/-- one turn of join_sorted's loop -/
def stepJ (s : List Pr × Pr) (p : Pr) : List Pr × Pr :=
  if s.2.2 < p.1 then (s.1 ++ [s.2], p) else (s.1, (s.2.1, if s.2.2 < p.2 then p.2 else s.2.2))
def joinF : List Pr → List Pr
  | [] => []
  | p :: r => let s := (p :: r).foldl stepJ ([], p); s.1 ++ [s.2]
/-- the same by recursion -/
def joinG (c : Pr) : List Pr → List Pr
  | [] => [c]
  | p :: r => if c.2 < p.1 then c :: joinG p r else joinG (c.1, if c.2 < p.2 then p.2 else c.2) r
theorem fold_joinG : ∀ (l : List Pr) (acc : List Pr) (c : Pr), (let s := l.foldl stepJ (acc, c); s.1 ++ [s.2]) = acc ++ joinG c l
  | [], acc, c => rfl
  | p :: r, acc, c => by
    simp only [List.foldl_cons, joinG, stepJ]
    split
    · have := fold_joinG r (acc ++ [c]) p
      simp only at this
      rw [this, List.append_assoc]; rfl
    · have := fold_joinG r acc (c.1, if c.2 < p.2 then p.2 else c.2)
      simp only at this
      rw [this]
def joinM : List Pr → List Pr
  | [] => []
  | p :: r => joinG p (p :: r)
theorem joinF_eq : ∀ l, joinF l = joinM l
  | [] => rfl
  | p :: r => by
    have := fold_joinG (p :: r) [] p
    simp only [List.nil_append] at this
    exact this
def gapd : List Pr → Bool
  | [] => true
  | [_] => true
  | p :: q :: r => decide (p.2 < q.1) && gapd (q :: r)
/-- z: whether ends are read as shut -/
def emp (z : Bool) (p : Pr) : Bool := if z then decide (p.2 < p.1) else decide (p.2 ≤ p.1)
def unionM (z : Bool) (l : List Pr) : List Pr := joinM (srt (l.filter fun p => !emp z p))
def oneF (z : Bool) (l : List Pr) : Bool := l.all (fun p => !emp z p) && gapd l
theorem joinG_head : ∀ (l : List Pr) (c : Pr), ∃ h r, joinG c l = (c.1, h) :: r
  | [], c => ⟨c.2, [], rfl⟩
  | p :: r, c => by
    unfold joinG
    split
    · exact ⟨c.2, _, rfl⟩
    · exact joinG_head r (c.1, if c.2 < p.2 then p.2 else c.2)
theorem joinG_gapd : ∀ (l : List Pr) (c : Pr), gapd (joinG c l) = true
  | [], c => rfl
  | p :: r, c => by
    unfold joinG
    split
    · rename_i h
      obtain ⟨hh, rr, e⟩ := joinG_head r p
      have ih := joinG_gapd r p
      rw [e] at ih ⊢
      unfold gapd
      rw [ih, decide_eq_true (by exact h)]; rfl
    · exact joinG_gapd r _
theorem joinG_full {z : Bool} : ∀ (l : List Pr) (c : Pr), emp z c = false → (∀ p ∈ l, emp z p = false) → ∀ p ∈ joinG c l, emp z p = false
  | [], c, hc, _, p, hp => by
    rw [joinG] at hp
    obtain rfl : p = c := by simpa using hp
    exact hc
  | q :: r, c, hc, hl, p, hp => by
    unfold joinG at hp
    split at hp
    · rcases List.mem_cons.mp hp with e | hp
      · exact e ▸ hc
      · exact joinG_full r q (hl q (by simp)) (fun x hx => hl x (by simp [hx])) p hp
    · refine joinG_full r _ ?_ (fun x hx => hl x (by simp [hx])) p hp
      unfold emp at hc ⊢
      cases z <;> simp at hc ⊢ <;> split <;> omega
theorem joinM_one {z : Bool} {l : List Pr} (h : ∀ p ∈ l, emp z p = false) : oneF z (joinM l) = true := by
  cases l with
  | nil => rfl
  | cons p r =>
    unfold oneF joinM
    rw [joinG_gapd, Bool.and_true, List.all_eq_true]
    intro q hq
    rw [joinG_full (z := z) (p :: r) p (h p (by simp)) h q hq]; rfl
theorem joinG_id : ∀ (l : List Pr) (c : Pr), gapd (c :: l) = true → joinG c l = c :: l
  | [], c, _ => rfl
  | p :: r, c, h => by
    unfold gapd at h
    rw [Bool.and_eq_true, decide_eq_true_eq] at h
    unfold joinG
    rw [if_pos h.1, joinG_id r p h.2]
theorem joinM_id {l : List Pr} (h : gapd l = true) (hs : ∀ p ∈ l, p.1 ≤ p.2) : joinM l = l := by
  cases l with
  | nil => rfl
  | cons p r =>
    have : p.1 ≤ p.2 := hs p (by simp)
    show joinG p (p :: r) = p :: r
    unfold joinG
    rw [if_neg (show ¬ p.2 < p.1 by omega), if_neg (show ¬ p.2 < p.2 by omega)]
    exact joinG_id r p h
theorem gapd_tail {p : Pr} {r : List Pr} (h : gapd (p :: r) = true) : gapd r = true := by
  cases r with
  | nil => rfl
  | cons q r => unfold gapd at h; rw [Bool.and_eq_true] at h; exact h.2
theorem gapd_lt : ∀ {p : Pr} {r : List Pr}, gapd (p :: r) = true → (∀ q ∈ r, q.1 ≤ q.2) → ∀ q ∈ r, p.2 < q.1
  | p, [], _, _, q, hq => by simp at hq
  | p, q :: r, h, hs, x, hx => by
    unfold gapd at h
    rw [Bool.and_eq_true, decide_eq_true_eq] at h
    rcases List.mem_cons.mp hx with e | hx
    · exact e ▸ h.1
    · have := gapd_lt h.2 (fun y hy => hs y (by simp [hy])) x hx
      have := hs q (by simp)
      omega
theorem gapd_sorted : ∀ {l : List Pr}, gapd l = true → (∀ q ∈ l, q.1 ≤ q.2) → l.Pairwise ple
  | [], _, _ => .nil
  | p :: r, h, hs => List.pairwise_cons.mpr ⟨fun q hq => by
      have := gapd_lt h (fun y hy => hs y (by simp [hy])) q hq
      have := hs p (by simp)
      exact .inl (by omega), gapd_sorted (gapd_tail h) fun y hy => hs y (by simp [hy])⟩
/-- the union leaves a list as it is just where the list is in one form -/
theorem union_fix {z : Bool} {l : List Pr} (hs : ∀ p ∈ l, p.1 ≤ p.2) : unionM z l = l ↔ oneF z l = true := by
  constructor
  · intro h
    rw [← h]
    unfold unionM
    refine joinM_one fun p hp => ?_
    have := (srt_perm _).mem_iff.mp hp
    have := (List.mem_filter.mp this).2
    simpa using this
  · intro h
    unfold oneF at h
    rw [Bool.and_eq_true, List.all_eq_true] at h
    unfold unionM
    have e1 : l.filter (fun p => !emp z p) = l := List.filter_eq_self.mpr h.1
    have e2 : srt l = l := sorted_uniq (srt_sorted l) (gapd_sorted h.2 hs) (srt_perm l)
    rw [e1, e2, joinM_id h.2 hs]
end Spk

namespace Spk
/-! ### what a list of pairs covers, on a doubled line: (b, e) covers 2b .. 2e - 1, and 2e too if ends are shut -/
def covP (z : Bool) (p : Pr) (m : Int) : Prop := 2 * p.1 ≤ m ∧ m < 2 * p.2 + (if z then 1 else 0)
def cov (z : Bool) (l : List Pr) (m : Int) : Prop := ∃ p ∈ l, covP z p m
theorem cov_nil {z : Bool} {m : Int} : ¬ cov z [] m := fun ⟨_, h, _⟩ => by simp at h
theorem cov_cons {z : Bool} {p : Pr} {l : List Pr} {m : Int} : cov z (p :: l) m ↔ covP z p m ∨ cov z l m := by
  unfold cov; simp
theorem cov_app {z : Bool} {l k : List Pr} {m : Int} : cov z (l ++ k) m ↔ cov z l m ∨ cov z k m := by
  induction l with
  | nil => simp [cov_nil]
  | cons p r ih => rw [List.cons_append, cov_cons, cov_cons, ih, or_assoc]
theorem cov_perm {z : Bool} {l k : List Pr} (h : l.Perm k) {m : Int} : cov z l m ↔ cov z k m :=
  ⟨fun ⟨p, hp, c⟩ => ⟨p, h.mem_iff.mp hp, c⟩, fun ⟨p, hp, c⟩ => ⟨p, h.mem_iff.mpr hp, c⟩⟩
theorem emp_cov {z : Bool} {p : Pr} (h : emp z p = true) (m : Int) : ¬ covP z p m := by
  unfold emp at h; unfold covP
  cases z <;> simp at h ⊢ <;> omega
theorem full_cov {z : Bool} {p : Pr} (h : emp z p = false) : covP z p (2 * p.1) := by
  unfold emp at h; unfold covP
  cases z <;> simp at h ⊢ <;> omega
theorem cov_filter {z : Bool} {l : List Pr} {m : Int} : cov z (l.filter fun p => !emp z p) m ↔ cov z l m := by
  constructor
  · rintro ⟨p, hp, c⟩
    exact ⟨p, (List.mem_filter.mp hp).1, c⟩
  · rintro ⟨p, hp, c⟩
    refine ⟨p, List.mem_filter.mpr ⟨hp, ?_⟩, c⟩
    cases e : emp z p with
    | true => exact absurd c (emp_cov e m)
    | false => rfl
theorem cov_merge {z : Bool} {c p : Pr} (h1 : c.1 ≤ p.1) (h2 : p.1 ≤ c.2) {m : Int} : covP z (c.1, if c.2 < p.2 then p.2 else c.2) m ↔ covP z c m ∨ covP z p m := by
  unfold covP
  cases z <;> simp <;> split <;> omega
theorem cov_joinG {z : Bool} : ∀ (l : List Pr) (c : Pr), (∀ p ∈ l, c.1 ≤ p.1) → l.Pairwise ple → ∀ m, cov z (joinG c l) m ↔ covP z c m ∨ cov z l m
  | [], c, _, _, m => by simp [joinG, cov_cons, cov_nil]
  | p :: r, c, h, hs, m => by
    have hs' := List.pairwise_cons.mp hs
    have hle : ∀ q ∈ r, p.1 ≤ q.1 := fun q hq => by have := hs'.1 q hq; unfold ple at this; omega
    unfold joinG
    split
    · rw [cov_cons, cov_joinG r p hle hs'.2 m, cov_cons]
    · rename_i hn
      rw [cov_joinG r (c.1, if c.2 < p.2 then p.2 else c.2) (fun q hq => h q (by simp [hq])) hs'.2 m, cov_merge (h p (by simp)) (by omega), cov_cons, or_assoc]
theorem cov_joinM {z : Bool} {l : List Pr} (hs : l.Pairwise ple) (m : Int) : cov z (joinM l) m ↔ cov z l m := by
  cases l with
  | nil => rfl
  | cons p r =>
    have hs' := List.pairwise_cons.mp hs
    have hle : ∀ q ∈ p :: r, p.1 ≤ q.1 := fun q hq => by
      rcases List.mem_cons.mp hq with e | hq
      · rw [e]; exact Int.le_refl _
      · have := hs'.1 q hq; unfold ple at this; omega
    show cov z (joinG p (p :: r)) m ↔ _
    rw [cov_joinG (p :: r) p hle hs m, cov_cons]
    exact ⟨fun h => h.elim Or.inl id, Or.inr⟩
/-- the union covers what the list covers -/
theorem cov_union (z : Bool) (l : List Pr) (m : Int) : cov z (unionM z l) m ↔ cov z l m := by
  unfold unionM
  rw [cov_joinM (srt_sorted _), cov_perm (srt_perm _), cov_filter]
theorem union_one (z : Bool) (l : List Pr) : oneF z (unionM z l) = true := by
  unfold unionM
  refine joinM_one fun p hp => ?_
  have := (List.mem_filter.mp ((srt_perm _).mem_iff.mp hp)).2
  simpa using this
theorem oneF_cons {z : Bool} {p : Pr} {l : List Pr} (h : oneF z (p :: l) = true) : emp z p = false ∧ oneF z l = true ∧ gapd (p :: l) = true := by
  unfold oneF at h ⊢
  simp only [List.all_cons, Bool.and_eq_true] at h
  exact ⟨by simpa using h.1.1, by rw [Bool.and_eq_true]; exact ⟨h.1.2, gapd_tail h.2⟩, h.2⟩
theorem emp_le {z : Bool} {p : Pr} (h : emp z p = false) : p.1 ≤ p.2 := by
  unfold emp at h
  cases z <;> simp at h <;> omega
theorem oneF_le {z : Bool} {l : List Pr} (h : oneF z l = true) : ∀ q ∈ l, q.1 ≤ q.2 := fun q hq => by
  unfold oneF at h
  rw [Bool.and_eq_true, List.all_eq_true] at h
  exact emp_le (z := z) (by simpa using h.1 q hq)
/-- what stands behind the first pair of a list in one form lies beyond it -/
theorem cov_beyond {z : Bool} {p : Pr} {l : List Pr} (h : oneF z (p :: l) = true) {m : Int} (c : cov z l m) : 2 * p.2 + 1 < m := by
  obtain ⟨q, hq, c1, c2⟩ := c
  obtain ⟨_, h2, h3⟩ := oneF_cons h
  have := gapd_lt h3 (oneF_le h2) q hq
  omega
/-- a list in one form is told by what it covers -/
theorem one_uniq {z : Bool} : ∀ {l k : List Pr}, oneF z l = true → oneF z k = true → (∀ m, cov z l m ↔ cov z k m) → l = k
  | [], [], _, _, _ => rfl
  | [], q :: k, _, hk, h => absurd ((h (2 * q.1)).mpr (cov_cons.mpr (.inl (full_cov (oneF_cons hk).1)))) cov_nil
  | p :: l, [], hl, _, h => absurd ((h (2 * p.1)).mp (cov_cons.mpr (.inl (full_cov (oneF_cons hl).1)))) cov_nil
  | p :: l, q :: k, hl, hk, h => by
    obtain ⟨p1, p2, p3⟩ := oneF_cons hl
    obtain ⟨q1, q2, q3⟩ := oneF_cons hk
    have lp := emp_le p1
    have lq := emp_le q1
    have at_ : ∀ {p q : Pr} {l k : List Pr}, oneF z (p :: l) = true → oneF z (q :: k) = true → (∀ m, cov z (p :: l) m ↔ cov z (q :: k) m) → q.1 ≤ p.1 := by
      intro p q l k hl hk h
      obtain ⟨p1, _, _⟩ := oneF_cons hl
      obtain ⟨q1, _, _⟩ := oneF_cons hk
      have lq := emp_le q1
      rcases cov_cons.mp ((h (2 * p.1)).mp (cov_cons.mpr (.inl (full_cov p1)))) with c | c
      · have := c.1; omega
      · have := cov_beyond hk c; omega
    have e1 : p.1 = q.1 := by
      have a := at_ hl hk h
      have b := at_ hk hl fun m => (h m).symm
      omega
    have en : ∀ {p q : Pr} {l k : List Pr}, oneF z (p :: l) = true → oneF z (q :: k) = true → (∀ m, cov z (p :: l) m ↔ cov z (q :: k) m) → p.1 = q.1 → q.2 ≤ p.2 := by
      intro p q l k hl hk h e
      obtain ⟨p1, _, _⟩ := oneF_cons hl
      obtain ⟨q1, _, _⟩ := oneF_cons hk
      have lp := emp_le p1
      refine Classical.byContradiction fun hc => ?_
      have hx : cov z (q :: k) (2 * p.2 + 1) := cov_cons.mpr (.inl ⟨by omega, by split <;> omega⟩)
      rcases cov_cons.mp ((h _).mpr hx) with c | c
      · have := c.2
        cases z <;> simp at this
        omega
      · have := cov_beyond hl c; omega
    have e2 : p.2 = q.2 := by
      have a := en hl hk h e1
      have b := en hk hl (fun m => (h m).symm) e1.symm
      omega
    have e : p = q := Prod.ext e1 e2
    subst e
    rw [one_uniq p2 q2 fun m => ?_]
    constructor
    · intro c
      rcases cov_cons.mp ((h m).mp (cov_cons.mpr (.inr c))) with d | d
      · have := cov_beyond hl c
        have := d.2
        cases z <;> simp at this <;> omega
      · exact d
    · intro c
      rcases cov_cons.mp ((h m).mpr (cov_cons.mpr (.inr c))) with d | d
      · have := cov_beyond hk c
        have := d.2
        cases z <;> simp at this <;> omega
      · exact d
/-- two lists have the same union just if they cover the same -/
theorem union_eq_iff {z : Bool} {l k : List Pr} : unionM z l = unionM z k ↔ ∀ m, cov z l m ↔ cov z k m := by
  constructor
  · intro h m
    rw [← cov_union z l m, h, cov_union z k m]
  · intro h
    exact one_uniq (union_one z l) (union_one z k) fun m => by rw [cov_union, cov_union, h m]
/-- the union is a list in one form that covers the same -/
theorem union_is {z : Bool} {l k : List Pr} (hk : oneF z k = true) (h : ∀ m, cov z l m ↔ cov z k m) : unionM z l = k :=
  one_uniq (union_one z l) hk fun m => by rw [cov_union, h m]
end Spk
namespace Spk
theorem covP_cut {z : Bool} {b c e : Int} (h1 : b ≤ c) (h2 : c ≤ e) (m : Int) : covP z (c, e) m ∨ covP z (b, c) m ↔ covP z (b, e) m := by
  unfold covP
  cases z <;> simp <;> omega
theorem covP_sub {z : Bool} {b c d e : Int} (h1 : b ≤ c) (h2 : d ≤ e) {m : Int} (h : covP z (c, d) m) : covP z (b, e) m := by
  unfold covP at *
  cases z <;> simp at h ⊢ <;> omega
theorem cov_mix {z : Bool} (us ws : List Pr) (n : Nat) (m : Int) : cov z (us.take n ++ ws.take 1 ++ us.drop n ++ ws.drop 1) m ↔ cov z us m ∨ cov z ws m := by
  have a : cov z us m ↔ cov z (us.take n) m ∨ cov z (us.drop n) m := by rw [← cov_app, List.take_append_drop]
  have b : cov z ws m ↔ cov z (ws.take 1) m ∨ cov z (ws.drop 1) m := by rw [← cov_app, List.take_append_drop]
  rw [cov_app, cov_app, cov_app, a, b]
  constructor
  · rintro (((h | h) | h) | h)
    · exact .inl (.inl h)
    · exact .inr (.inl h)
    · exact .inl (.inr h)
    · exact .inr (.inr h)
  · rintro ((h | h) | (h | h))
    · exact .inl (.inl (.inl h))
    · exact .inl (.inr h)
    · exact .inl (.inl (.inr h))
    · exact .inr h
theorem cov_take_more {z : Bool} {l : List Pr} {i : Nat} {p : Pr} (h : l[i]? = some p) (m : Int) : cov z (l.take (i + 1)) m ↔ cov z (l.take i) m ∨ covP z p m := by
  rw [List.take_add_one, h, cov_app]
  show _ ∨ cov z [p] m ↔ _
  rw [cov_cons]
  simp [cov_nil]
theorem cov_two {z : Bool} {p q : Pr} {m : Int} : cov z [p, q] m ↔ covP z p m ∨ covP z q m := by
  rw [cov_cons, cov_cons]; simp [cov_nil]
theorem cov_single {z : Bool} {p : Pr} {m : Int} : cov z [p] m ↔ covP z p m := by
  rw [cov_cons]; simp [cov_nil]
end Spk
namespace Spk
theorem gapd_apart : ∀ {l : List Pr}, gapd l = true → (∀ q ∈ l, q.1 ≤ q.2) → ∀ p ∈ l, ∀ q ∈ l, p = q ∨ p.2 < q.1 ∨ q.2 < p.1
  | [], _, _, p, hp, _, _ => by simp at hp
  | x :: r, h, hs, p, hp, q, hq => by
    have ht := gapd_lt h (fun y hy => hs y (by simp [hy]))
    rcases List.mem_cons.mp hp with e1 | hp
    · rcases List.mem_cons.mp hq with e2 | hq
      · exact .inl (e1.trans e2.symm)
      · exact .inr (.inl (e1 ▸ ht q hq))
    · rcases List.mem_cons.mp hq with e2 | hq
      · exact .inr (.inr (e2 ▸ ht p hp))
      · exact gapd_apart (gapd_tail h) (fun y hy => hs y (by simp [hy])) p hp q hq
def hasAll (z : Bool) (l : List Pr) (s : Pr) : Bool := (!z && decide (s.1 = s.2)) || l.any fun p => decide (p.1 ≤ s.1) && decide (s.2 ≤ p.2)
theorem hasAll_iff {z : Bool} {l : List Pr} {s : Pr} (h : oneF z l = true) (hs : s.1 ≤ s.2) : hasAll z l s = true ↔ ∀ m, covP z s m → cov z l m := by
  constructor
  · intro h1 m hm
    unfold hasAll at h1
    simp only [Bool.or_eq_true, Bool.and_eq_true, decide_eq_true_eq, List.any_eq_true, Bool.not_eq_true'] at h1
    rcases h1 with ⟨e1, e2⟩ | ⟨p, hp, e1, e2⟩
    · subst e1
      unfold covP at hm
      simp at hm
      omega
    · exact ⟨p, hp, covP_sub e1 e2 hm⟩
  · intro h1
    unfold hasAll
    simp only [Bool.or_eq_true, Bool.and_eq_true, decide_eq_true_eq, List.any_eq_true, Bool.not_eq_true']
    by_cases c : z = false ∧ s.1 = s.2
    · exact .inl c
    · refine .inr ?_
      have hx : covP z s (2 * s.1) := by
        unfold covP
        cases z <;> simp at c ⊢ <;> omega
      obtain ⟨p, hp, c1, c2⟩ := h1 _ hx
      have hg : gapd l = true := by unfold oneF at h; rw [Bool.and_eq_true] at h; exact h.2
      have hle := oneF_le h
      refine ⟨p, hp, by omega, Classical.byContradiction fun hn => ?_⟩
      have hp2 : s.1 ≤ p.2 := by cases z <;> simp at c2 <;> omega
      have hy : covP z s (2 * p.2 + 1) := ⟨by omega, by split <;> omega⟩
      obtain ⟨q, hq, d1, d2⟩ := h1 _ hy
      have := hle p hp
      rcases gapd_apart hg hle p hp q hq with e | e | e
      · subst e
        cases z <;> simp at d2
        omega
      · omega
      · cases z <;> simp at d2 <;> omega
theorem joinG_len : ∀ (l : List Pr) (c : Pr), (joinG c l).length ≤ l.length + 1
  | [], c => Nat.le_refl _
  | p :: r, c => by
    unfold joinG
    split
    · have := joinG_len r p; simp; omega
    · have := joinG_len r (c.1, if c.2 < p.2 then p.2 else c.2); simp; omega
theorem joinM_len (l : List Pr) : (joinM l).length ≤ l.length + 1 := by
  cases l with
  | nil => exact Nat.zero_le _
  | cons p r => exact joinG_len (p :: r) p
theorem union_len (z : Bool) (l : List Pr) : (unionM z l).length ≤ l.length + 1 := by
  unfold unionM
  refine Nat.le_trans (joinM_len _) (Nat.succ_le_succ ?_)
  rw [(srt_perm _).length_eq]
  exact List.length_filter_le ..
theorem union_union (z : Bool) (l : List Pr) : unionM z (unionM z l) = unionM z l := union_is (union_one z l) fun _ => Iff.rfl
/-- a property of the pairs that joining keeps -/
theorem union_keeps {z : Bool} {G : Pr → Prop} (ext : ∀ c p : Pr, G c → G p → c.2 < p.2 → G (c.1, p.2)) {l : List Pr} (h : ∀ p ∈ l, G p) : ∀ p ∈ unionM z l, G p := by
  have jg : ∀ (l : List Pr) (c : Pr), G c → (∀ p ∈ l, G p) → ∀ p ∈ joinG c l, G p := by
    intro l
    induction l with
    | nil => intro c hc _ p hp; rw [joinG] at hp; exact (List.mem_singleton.mp hp) ▸ hc
    | cons q r ih =>
      intro c hc hl p hp
      unfold joinG at hp
      split at hp
      · rcases List.mem_cons.mp hp with e | hp
        · exact e ▸ hc
        · exact ih q (hl q (by simp)) (fun x hx => hl x (by simp [hx])) p hp
      · refine ih _ ?_ (fun x hx => hl x (by simp [hx])) p hp
        split
        · exact ext c q hc (hl q (by simp)) (by assumption)
        · exact hc
  have hl : ∀ p ∈ srt (l.filter fun p => !emp z p), G p := fun p hp => h p (List.mem_filter.mp ((srt_perm _).mem_iff.mp hp)).1
  unfold unionM
  generalize srt (l.filter fun p => !emp z p) = k at hl
  cases k with
  | nil => intro p hp; simp [joinM] at hp
  | cons q r => exact jg (q :: r) q (hl q (by simp)) hl
theorem any_filter {l : List Pr} {f : Pr → Bool} : (!decide (l.filter f = [])) = l.any f := by
  induction l with
  | nil => rfl
  | cons p r ih =>
    cases e : f p with
    | true => rw [List.filter_cons_of_pos e, List.any_cons, e]; simp
    | false => rw [List.filter_cons_of_neg (by rw [e]; decide), List.any_cons, e, Bool.false_or, ih]
end Spk
namespace Spk
theorem oneF_cons_mem {z : Bool} {l : List Pr} (h : oneF z l = true) {p : Pr} (hp : p ∈ l) : emp z p = false := by
  unfold oneF at h
  rw [Bool.and_eq_true, List.all_eq_true] at h
  simpa using h.1 p hp
end Spk

namespace Spk
/-! ### what the wishes for answers count -/
def mx (m n : Int) : Int := if n > m then n else m
def mn (m n : Int) : Int := if n < m then n else m
/-- have two stretches a moment in common -/
def meetB (z : Bool) (p q : Pr) : Bool := decide (mx p.1 q.1 < mn p.2 q.2) || (z && decide (mx p.1 q.1 = mn p.2 q.2))
theorem meet_emp (z : Bool) (p q : Pr) : meetB z p q = !emp z (mx p.1 q.1, mn p.2 q.2) := by
  unfold meetB emp
  rw [Bool.eq_iff_iff]
  cases z <;> simp <;> omega
theorem meet_symm {z : Bool} {p q : Pr} : meetB z p q = meetB z q p := by
  unfold meetB mx mn
  rw [Bool.eq_iff_iff]
  cases z <;> simp only [Bool.or_eq_true, Bool.and_eq_true, decide_eq_true_eq, Bool.false_and, Bool.true_and, Bool.false_eq_true, or_false] <;> (repeat' split) <;> omega
theorem meet_not {z : Bool} {p q : Pr} (h : emp z p = true ∨ emp z q = true) (hp : p.1 ≤ p.2) (hq : q.1 ≤ q.2) : meetB z p q = false := by
  rw [meet_emp]
  unfold emp mx mn at *
  rw [Bool.not_eq_false']
  cases z <;> simp only [Bool.false_eq_true, if_false, if_true, decide_eq_true_eq] at * <;> (repeat' split) <;> omega
theorem meet_srt {z : Bool} {p q : Pr} (h : q.1 ≤ p.1) (hp : emp z p = false) (hq : emp z q = false) : meetB z p q = !emp z (p.1, q.2) := by
  rw [meet_emp]
  congr 1
  rw [Bool.eq_iff_iff]
  unfold emp mx mn at *
  cases z <;> simp only [Bool.false_eq_true, if_false, if_true, decide_eq_true_eq, decide_eq_false_iff_not] at * <;> (repeat' split) <;> omega
/-- no two of them meet -/
def Apart (z : Bool) (ps : List Pr) : Prop := ps.Pairwise fun q p => meetB z p q = false
instance {z : Bool} {ps : List Pr} : Decidable (Apart z ps) := inferInstanceAs (Decidable (List.Pairwise _ _))
def clashB (z : Bool) (ps : List Pr) : Bool := !decide (Apart z ps)
theorem apart_perm {z : Bool} {l k : List Pr} (h : l.Perm k) : Apart z l ↔ Apart z k :=
  h.pairwise_iff fun {x y} e => by rw [meet_symm]; exact e
theorem apart_filter {z : Bool} {l : List Pr} (h : ∀ p ∈ l, p.1 ≤ p.2) : Apart z (l.filter fun p => !emp z p) ↔ Apart z l := by
  unfold Apart
  rw [List.pairwise_filter]
  constructor
  · intro k
    refine k.imp_of_mem fun {q p} hq hp r => ?_
    cases eq : emp z q with
    | true => exact meet_not (.inr eq) (h p hp) (h q hq)
    | false =>
      cases ep : emp z p with
      | true => exact meet_not (.inl ep) (h p hp) (h q hq)
      | false => exact r (by rw [eq]; rfl) (by rw [ep]; rfl)
  · intro k
    exact k.imp fun {q p} r _ _ => r
/-- the loop of has_clash -/
def clashF (z : Bool) : Int → List Pr → Bool
  | _, [] => false
  | r, p :: l => if (decide (r > -10000000000000000000000000000000) && !emp z (p.1, r)) = true then true else clashF z (mx r p.2) l
theorem emp_mx {z : Bool} {b x y : Int} : emp z (b, mx x y) = (emp z (b, x) && emp z (b, y)) := by
  rw [Bool.eq_iff_iff]
  unfold emp mx
  cases z <;> simp only [Bool.false_eq_true, if_false, if_true, Bool.and_eq_true, decide_eq_true_eq] <;> split <;> omega
theorem clashF_no {z : Bool} : ∀ (l : List Pr) (r : Int), (∀ p ∈ l, -10000000000000000000000000000000 < p.2) →
    (clashF z r l = false ↔ (∀ p ∈ l, r > -10000000000000000000000000000000 → emp z (p.1, r) = true) ∧ l.Pairwise fun q p => emp z (p.1, q.2) = true)
  | [], r, _ => by simp [clashF]
  | p :: l, r, h => by
    have hp := h p (by simp)
    have ih := clashF_no (z := z) l (mx r p.2) fun q hq => h q (by simp [hq])
    have g : mx r p.2 > -10000000000000000000000000000000 := by unfold mx; split <;> omega
    rw [List.pairwise_cons]
    unfold clashF
    by_cases c : (decide (r > -10000000000000000000000000000000) && !emp z (p.1, r)) = true
    · rw [if_pos c]
      refine ⟨(fun x => nomatch x), fun x => ?_⟩
      rw [Bool.and_eq_true, decide_eq_true_eq] at c
      have := x.1 p (by simp) c.1
      rw [this] at c
      exact absurd c.2 (by decide)
    · rw [if_neg c, ih]
      have c' : r > -10000000000000000000000000000000 → emp z (p.1, r) = true := fun hr => by
        cases e : emp z (p.1, r) with
        | true => rfl
        | false => exact absurd (by rw [e, decide_eq_true hr]; rfl) c
      constructor
      · rintro ⟨h1, h2⟩
        refine ⟨fun q hq hr => ?_, fun q hq => ?_, h2⟩
        · rcases List.mem_cons.mp hq with e | hq
          · rw [e]; exact c' hr
          · have := h1 q hq g
            rw [emp_mx, Bool.and_eq_true] at this
            exact this.1
        · have := h1 q hq g
          rw [emp_mx, Bool.and_eq_true] at this
          exact this.2
      · rintro ⟨h1, h2, h3⟩
        refine ⟨fun q hq _ => ?_, h3⟩
        rw [emp_mx, Bool.and_eq_true]
        refine ⟨?_, h2 q hq⟩
        by_cases hr : r > -10000000000000000000000000000000
        · exact h1 q (by simp [hq]) hr
        · have := h2 q hq
          have hh := h p (by simp)
          unfold emp at this ⊢
          cases z <;> simp only [Bool.false_eq_true, if_false, if_true, decide_eq_true_eq] at * <;> omega
theorem clash_is {z : Bool} {ps : List Pr} (h1 : ∀ p ∈ ps, p.1 ≤ p.2) (h2 : ∀ p ∈ ps, -10000000000000000000000000000000 < p.2) :
    clashF z (-10000000000000000000000000000000) (srt (ps.filter fun p => !emp z p)) = clashB z ps := by
  have hm : ∀ p ∈ srt (ps.filter fun p => !emp z p), p ∈ ps ∧ emp z p = false := fun p hp => by
    have := List.mem_filter.mp ((srt_perm _).mem_iff.mp hp)
    exact ⟨this.1, by simpa using this.2⟩
  have e : clashF z (-10000000000000000000000000000000) (srt (ps.filter fun p => !emp z p)) = false ↔ Apart z ps := by
    rw [clashF_no _ _ fun p hp => h2 p (hm p hp).1, ← apart_filter h1, ← apart_perm (srt_perm _)]
    constructor
    · rintro ⟨_, k⟩
      refine List.Pairwise.imp_of_mem (fun {q p} hq hp r => ?_) (k.and (srt_sorted _))
      have hle : q.1 ≤ p.1 := by have := r.2; unfold ple at this; omega
      rw [meet_srt hle (hm p hp).2 (hm q hq).2, r.1]; rfl
    · intro k
      refine ⟨fun p _ c => absurd c (by decide), List.Pairwise.imp_of_mem (fun {q p} hq hp r => ?_) (List.Pairwise.and k (srt_sorted _))⟩
      have hle : q.1 ≤ p.1 := by have := r.2; unfold ple at this; omega
      have := r.1
      rw [meet_srt hle (hm p hp).2 (hm q hq).2] at this
      simpa using this
  unfold clashB
  cases c : clashF z (-10000000000000000000000000000000) (srt (ps.filter fun p => !emp z p)) with
  | false => rw [decide_eq_true (e.mp c)]; rfl
  | true => rw [decide_eq_false fun x => by rw [e.mpr x] at c; cases c]; rfl
theorem clash_rev {z : Bool} {ps : List Pr} : clashB z ps.reverse = clashB z ps := by
  unfold clashB
  congr 1
  exact decide_eq_decide.mpr (apart_perm (List.reverse_perm ps))
/-- one more pair behind -/
theorem apart_take {z : Bool} {ps : List Pr} {k : Nat} {p : Pr} (h : ps[k]? = some p) : Apart z (ps.take (k + 1)) ↔ Apart z (ps.take k) ∧ ((ps.take k).any fun q => meetB z p q) = false := by
  have e : ps.take (k + 1) = ps.take k ++ [p] := by rw [List.take_add_one, h]; rfl
  unfold Apart
  rw [e, List.pairwise_append]
  simp only [List.pairwise_cons, List.not_mem_nil, false_imp_iff, implies_true, List.Pairwise.nil, and_true, List.mem_singleton, forall_eq, true_and, List.any_eq_false, Bool.not_eq_true]
/-! ### the law's own pieces -/
def pcGo : List Pr → Pr → List Pr × Pr
  | [], c => ([], c)
  | o :: r, c => if o.2 < c.1 ∨ c.2 < o.1 then (o :: (pcGo r c).1, (pcGo r c).2) else pcGo r (mn c.1 o.1, mx c.2 o.2)
def pcS (s : List Pr × Pr) (o : Pr) : List Pr × Pr := if o.2 < s.2.1 ∨ s.2.2 < o.1 then (s.1 ++ [o], s.2) else (s.1, (mn s.2.1 o.1, mx s.2.2 o.2))
theorem pcS_go : ∀ (l : List Pr) (a : List Pr) (c : Pr), l.foldl pcS (a, c) = (a ++ (pcGo l c).1, (pcGo l c).2)
  | [], a, c => by simp [pcGo]
  | o :: r, a, c => by
    rw [List.foldl_cons]
    unfold pcGo
    by_cases h : o.2 < c.1 ∨ c.2 < o.1
    · rw [if_pos h, show pcS (a, c) o = (a ++ [o], c) from if_pos h, pcS_go r (a ++ [o]) c]
      simp
    · rw [if_neg h, show pcS (a, c) o = (a, (mn c.1 o.1, mx c.2 o.2)) from if_neg h, pcS_go r a _]
def pcStep (z : Bool) (found : List Pr) (p : Pr) : List Pr := if (z || decide (p.1 < p.2)) = true then srt ((pcGo found p).1 ++ [(pcGo found p).2]) else found
def pieces (z : Bool) (ps : List Pr) : List Pr := ps.foldl (pcStep z) []
theorem pcGo_low {m : Int} : ∀ (l : List Pr) (c : Pr), (∀ o ∈ l, m < o.1) → m < c.1 → m < (pcGo l c).2.1
  | [], c, _, h => h
  | o :: r, c, hl, h => by
    unfold pcGo
    split
    · exact pcGo_low r c (fun x hx => hl x (by simp [hx])) h
    · refine pcGo_low r _ (fun x hx => hl x (by simp [hx])) ?_
      have := hl o (by simp)
      show m < mn c.1 o.1
      unfold mn; split <;> omega
theorem pcGo_far : ∀ (l : List Pr) (c : Pr), (∀ o ∈ l, c.2 < o.1) → pcGo l c = (l, c)
  | [], c, _ => rfl
  | o :: r, c, hl => by
    unfold pcGo
    rw [if_pos (.inr (hl o (by simp))), pcGo_far r c fun x hx => hl x (by simp [hx])]
theorem pcGo_sub : ∀ (l : List Pr) (c : Pr), (pcGo l c).1.Sublist l
  | [], c => .slnil
  | o :: r, c => by
    unfold pcGo
    split
    · exact (pcGo_sub r c).cons_cons o
    · exact (pcGo_sub r _).cons o
theorem pcGo_full {z : Bool} : ∀ (l : List Pr) (c : Pr), emp z c = false → emp z (pcGo l c).2 = false
  | [], c, h => h
  | o :: r, c, h => by
    unfold pcGo
    split
    · exact pcGo_full r c h
    · refine pcGo_full r _ ?_
      unfold emp mn mx at *
      cases z <;> simp only [Bool.false_eq_true, if_false, if_true, decide_eq_false_iff_not] at * <;> (repeat' split) <;> omega
def sep (a b : Pr) : Prop := a.2 < b.1 ∨ b.2 < a.1
theorem pcGo_sep : ∀ (l : List Pr) (c : Pr), gapd l = true → (∀ q ∈ l, q.1 ≤ q.2) → ∀ o ∈ (pcGo l c).1, sep o (pcGo l c).2
  | [], c, _, _, o, h => by simp [pcGo] at h
  | q :: r, c, g, hs, o, h => by
    have gr := gapd_tail g
    have hr : ∀ x ∈ r, x.1 ≤ x.2 := fun x hx => hs x (by simp [hx])
    have lt := gapd_lt g hr
    unfold pcGo at h ⊢
    split
    · rename_i hc
      rw [if_pos hc] at h
      rcases List.mem_cons.mp h with e | h
      · subst e
        rcases hc with hc | hc
        · exact .inl (pcGo_low r c lt hc)
        · rw [pcGo_far r c fun x hx => by have := lt x hx; have := hs o (by simp); omega]
          exact .inr hc
      · exact pcGo_sep r c gr hr o h
    · rename_i hc
      rw [if_neg hc] at h
      exact pcGo_sep r _ gr hr o h
theorem cov_mnx {z : Bool} {c o : Pr} (h1 : c.1 ≤ o.2) (h2 : o.1 ≤ c.2) (h3 : c.1 ≤ c.2) (h4 : o.1 ≤ o.2) {m : Int} : covP z (mn c.1 o.1, mx c.2 o.2) m ↔ covP z o m ∨ covP z c m := by
  unfold covP mn mx
  cases z <;> simp only [Bool.false_eq_true, if_false, if_true] <;> (repeat' split) <;> omega
theorem pcGo_cov {z : Bool} : ∀ (l : List Pr) (c : Pr), (∀ q ∈ l, q.1 ≤ q.2) → c.1 ≤ c.2 → ∀ m, (cov z (pcGo l c).1 m ∨ covP z (pcGo l c).2 m) ↔ (cov z l m ∨ covP z c m)
  | [], c, _, _, m => Iff.rfl
  | o :: r, c, hs, hc, m => by
    have hr : ∀ x ∈ r, x.1 ≤ x.2 := fun x hx => hs x (by simp [hx])
    have ho := hs o (by simp)
    unfold pcGo
    split
    · rw [cov_cons, cov_cons, or_assoc, or_assoc, pcGo_cov r c hr hc m]
    · rename_i h
      have h1 : c.1 ≤ o.2 ∧ o.1 ≤ c.2 := by omega
      rw [pcGo_cov r _ hr (by show mn c.1 o.1 ≤ mx c.2 o.2; unfold mn mx; (repeat' split) <;> omega) m, cov_mnx h1.1 h1.2 hc ho, cov_cons]
      constructor
      · rintro (a | a | a)
        · exact .inl (.inr a)
        · exact .inl (.inl a)
        · exact .inr a
      · rintro ((a | a) | a)
        · exact .inr (.inl a)
        · exact .inl a
        · exact .inr (.inr a)
theorem gapd_sep : ∀ {l : List Pr}, l.Pairwise ple → l.Pairwise sep → (∀ q ∈ l, q.1 ≤ q.2) → gapd l = true
  | [], _, _, _ => rfl
  | [_], _, _, _ => rfl
  | p :: q :: r, h1, h2, hs => by
    have a := (List.pairwise_cons.mp h1).1 q (by simp)
    have b := (List.pairwise_cons.mp h2).1 q (by simp)
    have hq := hs q (by simp)
    unfold gapd
    rw [gapd_sep (List.pairwise_cons.mp h1).2 (List.pairwise_cons.mp h2).2 fun x hx => hs x (by simp [hx]), Bool.and_true, decide_eq_true_eq]
    unfold ple at a
    unfold sep at b
    omega
theorem gapd_pw : ∀ {l : List Pr}, gapd l = true → (∀ q ∈ l, q.1 ≤ q.2) → l.Pairwise sep
  | [], _, _ => .nil
  | p :: r, g, hs => List.pairwise_cons.mpr ⟨fun q hq => .inl (gapd_lt g (fun x hx => hs x (by simp [hx])) q hq), gapd_pw (gapd_tail g) fun x hx => hs x (by simp [hx])⟩
theorem sep_symm {a b : Pr} (h : sep a b) : sep b a := h.symm
theorem pcStep_ok {z : Bool} {f : List Pr} {p : Pr} (h : oneF z f = true) (hp : p.1 ≤ p.2) : oneF z (pcStep z f p) = true ∧ ∀ m, cov z (pcStep z f p) m ↔ cov z f m ∨ covP z p m := by
  have hf := oneF_le h
  have h' := h
  unfold oneF at h
  rw [Bool.and_eq_true, List.all_eq_true] at h
  unfold pcStep
  by_cases c : (z || decide (p.1 < p.2)) = true
  · rw [if_pos c]
    have hpe : emp z p = false := by
      unfold emp
      cases z <;> simp at c ⊢ <;> omega
    have sub := pcGo_sub f p
    have full := pcGo_full f p hpe
    have mem : ∀ x ∈ srt ((pcGo f p).1 ++ [(pcGo f p).2]), emp z x = false := fun x hx => by
      rcases List.mem_append.mp ((srt_perm _).mem_iff.mp hx) with y | y
      · simpa using h.1 x (sub.subset y)
      · rw [List.mem_singleton.mp y]; exact full
    refine ⟨?_, fun m => ?_⟩
    · unfold oneF
      rw [Bool.and_eq_true, List.all_eq_true]
      refine ⟨fun x hx => by rw [mem x hx]; rfl, gapd_sep (srt_sorted _) ?_ fun x hx => emp_le (mem x hx)⟩
      refine ((srt_perm _).pairwise_iff fun {x y} e => sep_symm e).mpr ?_
      rw [List.pairwise_append]
      exact ⟨(gapd_pw h.2 hf).sublist sub, by simp, fun a ha b hb => by rw [List.mem_singleton.mp hb]; exact pcGo_sep f p h.2 hf a ha⟩
    · rw [cov_perm (srt_perm _), cov_app, cov_cons, ← pcGo_cov f p hf hp m]
      simp [cov_nil]
  · rw [if_neg c]
    refine ⟨h', fun m => ⟨Or.inl, fun x => x.elim id fun y => absurd y (emp_cov ?_ m)⟩⟩
    unfold emp
    cases z <;> simp at c ⊢ <;> omega
theorem pieces_ok {z : Bool} : ∀ (ps : List Pr) (f : List Pr), oneF z f = true → (∀ p ∈ ps, p.1 ≤ p.2) → oneF z (ps.foldl (pcStep z) f) = true ∧ ∀ m, cov z (ps.foldl (pcStep z) f) m ↔ cov z f m ∨ cov z ps m
  | [], f, h, _ => ⟨h, fun m => by simp [cov_nil]⟩
  | p :: r, f, h, hs => by
    obtain ⟨a, b⟩ := pcStep_ok (z := z) h (hs p (by simp))
    obtain ⟨c, d⟩ := pieces_ok r _ a fun x hx => hs x (by simp [hx])
    refine ⟨c, fun m => ?_⟩
    show cov z (r.foldl (pcStep z) (pcStep z f p)) m ↔ _
    rw [d m, b m, cov_cons, or_assoc]
theorem pieces_is {z : Bool} {ps : List Pr} (h : ∀ p ∈ ps, p.1 ≤ p.2) : pieces z ps = unionM z ps := by
  obtain ⟨a, b⟩ := pieces_ok (z := z) ps [] rfl h
  exact (union_is a fun m => by rw [b m]; simp [cov_nil]).symm
theorem pieces_len {z : Bool} {ps : List Pr} : (pieces z ps).length ≤ ps.length := by
  have : ∀ (l f : List Pr), (l.foldl (pcStep z) f).length ≤ f.length + l.length := by
    intro l
    induction l with
    | nil => intro f; simp
    | cons p r ih =>
      intro f
      have h1 := ih (pcStep z f p)
      have h2 : (pcStep z f p).length ≤ f.length + 1 := by
        unfold pcStep
        split
        · rw [(srt_perm _).length_eq, List.length_append, List.length_singleton]
          have := (pcGo_sub f p).length_le
          omega
        · omega
      rw [List.foldl_cons, List.length_cons]
      omega
  have := this ps []
  unfold pieces
  simpa using this
/-! ### the answers -/
def busyB (z : Bool) (ps : List Pr) (w : Pr) : Bool := ps.any fun p => meetB z p w
def covB (us : List Pr) (w : Pr) : Bool := us.any fun p => decide (p.1 ≤ w.1) && decide (w.2 ≤ p.2)
/-- t: 0 busy, 1 covered, 2 clash -/
def ansB (t : Nat) (z : Bool) (ps : List Pr) (w : Pr) : Bool := if t = 0 then busyB z ps w else if t = 1 then covB (unionM z ps) w else clashB z ps
theorem union_rev {z : Bool} {ps : List Pr} : unionM z ps.reverse = unionM z ps := union_eq_iff.mpr fun m => cov_perm (List.reverse_perm ps)
theorem ans_rev {t : Nat} {z : Bool} {ps : List Pr} {w : Pr} : ansB t z ps.reverse w = ansB t z ps w := by
  unfold ansB
  rw [clash_rev, union_rev, show busyB z ps.reverse w = busyB z ps w from List.any_reverse ..]
theorem ans_nil {t : Nat} {z : Bool} {w : Pr} : ansB t z [] w = false := by
  unfold ansB busyB clashB
  split
  · rfl
  · split
    · rfl
    · rw [decide_eq_true (show Apart z [] from .nil)]; rfl
end Spk

namespace Spk
open PySem PySem.Spec PyProof.Rows L2
/-! Defs that are run where no repr is under way: the layer's rule of a def, with that known of the place. -/
structure FnG (P : Program) (w : World) (K : PySem.W.Frag) (mg : Str → Option Value) (bh : Heap) (k : Nat) (f : Addr) (fd : FuncData) (ps : List Str) (sp : Sp) : Prop where
  lenG : ∀ ws J R U, sp ws J R U → ws.length = ps.length
  runG : ∀ (B : Around) (ou : List Env) (t : Shared) (J : Hp) (ar : Args) (xs : List Value) (ws : List V) (R : VK) (U : XK), B.guards = some [] → Room k B →
    Env0 P w K mg bh B ou t J → BindsTo t fd ar (ps.zip xs) → Vals ws xs → sp ws J R U →
    codeAny (model P w) B (.call (.ref f) ar) (CR CX0 ou P w J t R U) t
section
variable {P : Program} {w : World} {K : PySem.W.Frag} {mg : Str → Option Value} {bh : Heap}
theorem fnG_of {k : Nat} {f : Addr} {nm qu : Str} {pr : Arguments} {bd : List Stmt} {sc : Scope} {v1 v2 v3 v4 v5 v6 v7 : Value} {o1 o2 : Option Addr}
    {sl : Array (Option Value)} {N ps : List Str} {sp : Sp}
    (lk : K.lookup f = some ⟨v7, o2, .func (PySem.W.fnOf nm qu pr bd sc v1 v2 v3 v4 o1 v5 v6), sl⟩)
    (hcd : PySem.W.codeIn K v5 qu = true) (S : FnScope N ps sc)
    (ln : ∀ ws J R U, sp ws J R U → ws.length = ps.length)
    (hb : ∀ (B : Around) (ou : List Env) (t : Shared) (J : Hp) (ws : List V) (R : VK) (U : XK), B.guards = some [] →
      Room k (B.deeper (envOfC qu sc t.heap.objs.size f v5)) → sp ws J R U →
      ∃ tr, PSs (cxOf CX0 P w K mg bh N qu sc f v5 B ou t J U) bd tr ∧ tr { nx := fun _ J' => R .non J', rt := R } (L2.start N ws) J) :
    FnG P w K mg bh (k + 1) f (PySem.W.fnOf nm qu pr bd sc v1 v2 v3 v4 o1 v5 v6) ps sp := by
  refine ⟨ln, fun B ou t J ar xs ws R U hgd rm e0 bi rl hsp => ?_⟩
  have hlen := ln _ _ _ _ hsp
  have kin : K.In t.heap := e0.mod.kin.keeps fun z y q => (e0.bs z y q).1
  have nol : t.heap.NoLimit := e0.mod.nolimit.keeps fun z y q => (e0.bs z y q).1
  refine codeAny_call_function rm.depth (kin _ _ lk) rfl S.co S.gen rfl (PySem.W.codeRec_of kin hcd) (bi _ _ _ _ ?_)
  refine wpAny_newFunctionEnv_cells S.kind ?_ fun en hen s1 ic => ?_
  · rintro ⟨n, v⟩ hy
    exact (S.par n (List.of_mem_zip hy).1).imp id fun q => ⟨q, PySem.W.cellsFrom_some _ _ _ (.inl q)⟩
  · subst hen
    refine ⟨nol.keeps ic.toInCall.keep, codeAny_func ?_⟩
    obtain ⟨tr, htr, hq⟩ := hb B ou t J ws R U hgd (rm.deeper _) hsp
    have iv : Inv (cxOf CX0 P w K mg bh N qu sc f v5 B ou t J U) [] (L2.start N ws) J s1 := inv_start S rm.hd e0 hlen rl ic
    refine wpAny_mono (htr.run [] s1 (L2.start N ws) J _ iv hq) (fun fl s2 hs => ?_) fun _ _ hs => hs
    cases fl with
    | ret u =>
      obtain ⟨v, _, J', I', rv, q⟩ := hs
      exact ⟨v, J', I'.os, I'.bare, I'.base, I'.hok, rv, q⟩
    | next =>
      obtain ⟨_, J', I', q⟩ := hs
      exact ⟨.non, J', I'.os, I'.bare, I'.base, I'.hok, rfl, q⟩
    | brk => exact hs.elim fun _ h => h.elim fun _ h => h.2.elim
    | cont => exact hs.elim fun _ h => h.elim fun _ h => h.2.elim
theorem Fun.okG {x qu : Str} {st : Stmt} {f : Addr} {fd : FuncData} {N ps : List Str} {k : Nat} {sp : Sp} (F : Fun K x qu st f fd) (S : FnScope N ps (defScope st))
    (ln : ∀ ws J R U, sp ws J R U → ws.length = ps.length)
    (hb : ∀ (cv : Value) (B : Around) (ou : List Env) (t : Shared) (J : Hp) (ws : List V) (R : VK) (U : XK), B.guards = some [] →
      Room k (B.deeper (envOfC qu (defScope st) t.heap.objs.size f cv)) → sp ws J R U →
      ∃ tr, PSs (cxOf CX0 P w K mg bh N qu (defScope st) f cv B ou t J U).nox (defBody st) tr ∧ tr { nx := fun _ J' => R .non J', rt := R } (L2.start N ws) J) :
    FnG P w K mg bh (k + 1) f fd ps sp := by
  obtain ⟨_, _, _, _, _, _, cv, _, _, rfl, lk, hcd⟩ := F.ex
  refine fnG_of lk hcd S ln fun B ou t J ws R U hgd rm hsp => ?_
  obtain ⟨tr, h, q⟩ := hb cv B ou t J ws R U hgd rm hsp
  exact ⟨tr, h.nox, q⟩
theorem FnG.of {k : Nat} {f : Addr} {fd : FuncData} {ps : List Str} {sp : Sp} (F : FnOk P w K mg bh CX0 k f fd ps sp) : FnG P w K mg bh k f fd ps sp :=
  ⟨F.len, fun B ou t J ar xs ws R U _ rm e0 bi rl h => F.run B ou t J ar xs ws R U rm e0 bi rl h⟩
end
section
variable {X : Cx} {k : Nat} {f : Addr} {fd : FuncData} {ps : List Str} {sp : Sp} {dvs : List V} {ds : List Value} {x : Str} {p pos : Pos} {e : Expr} {es : List Expr} {t : TA}
theorem run_fnG {pins : List (Addr × Obj)} {σ : L2.St} {J : Hp} {s : Shared} {R : VK} {xs : List Value} {ws : List V} (F : FnG X.prog X.w X.K X.mg X.base k f fd ps sp) (gd : X.A.guards = some []) (rm : Room k X.A)
    (bi : Binds X.K fd ps ds) (dd : Vals dvs ds) (I : Inv X pins σ J s) (rl : Vals ws xs) (h : sp (ws ++ dvs) J R E0) :
    wpAny (model X.prog X.w) X.A (call (.ref f) xs) (EP X pins σ R) X.xe s := by
  have r2 : Vals (ws ++ dvs) (xs ++ ds) := rl.append dd
  have hl : (xs ++ ds).length = ps.length := r2.length.symm.trans (F.lenG _ _ _ _ h)
  refine wpAny_call (codeAny_mono (F.runG X.A X.stack s J ⟨xs, []⟩ (xs ++ ds) (ws ++ dvs) R E0 gd rm I.env0 (bi s xs I.kIn hl) r2 h) fun r s' hq => ?_)
  match r, hq with
  | .ok (.ret u), hq => exact I.after hq
/-- f(e, ..), f a def that wants no repr under way -/
theorem pe_callG (F : FnG X.prog X.w X.K X.mg X.base k f fd ps sp) (gd : X.A.guards = some []) (rm : Room k X.A) (hg : Gl X x) (hm : X.mg x = some (.ref f)) (hk : PySem.W.keepIn X.K (.ref f) = true)
    (bi : Binds X.K fd ps ds) (dd : Vals dvs ds) (ha : PA X (e :: es) t) (hdb : (x == ("__debug__" : Str)) = false := by decide)
    (he : starEach (e :: es) X.env = (false, eval e X.env) :: starEach es X.env := by rfl) (hpl : (backTo pos (starEach es X.env)).any (·.1) = false := by rfl) :
    PE X (.Call (.Name x p) (e :: es) [] pos) (tCall sp dvs E0 t) := by
  refine ⟨fun pins s σ J R I h => wpAny_Call_Name_kw (ld_glob I hg hm ?_ hdb)⟩
  refine PySem.W.callWith_K (h₀ := X.base) I.ok.mod.kin hk (thn (ha.run pos pins s σ J _ I h) fun xs s1 hh => ?_) he hpl
  obtain ⟨ws, J1, I1, rl, q⟩ := hh
  exact ⟨I1.kIn, run_fnG F gd rm bi dd I1 rl q⟩
/-- repr of data: None, bools, ints, texts, lists and tuples of these, where no repr is under way -/
def rRepr (K : PySem.W.Frag) : List V → Hp → VK → Prop := fun xs J R => ∃ (x : V) (d : PyData), xs = [x] ∧ Dp K J x d ∧ d.showable = true ∧ d.hasDict = false ∧ d.depth ≤ 64 ∧ d.shown.length ≤ sizeLine ∧ R (.str d.shown) J
theorem call_reprD (gd : X.A.guards = some []) (rm : Room k X.A) : CallR X (.builtin "repr") (rRepr X.K) := by
  intro pins s σ J xs us R I r h
  obtain ⟨x, d, rfl, dp, hs, hnd, hdep, hz, q⟩ := h
  have hu : X.A.units + (d.depth + 1) < cLine := by have := rm.un; omega
  obtain ⟨u, rfl, ru⟩ := vals1 r
  obtain ⟨as, rd⟩ := Dp.reads I d x u dp ru
  have fin : ∀ h' tk, (∀ b o, s.heap.get? b = some o → h'.get? b = some o) → ∀ t, EP X pins σ R (.str d.shown t) { s with heap := h', toks := tk } := fun h' tk hk t =>
    ⟨.str d.shown, J, I.kept (t' := tk) hk, ⟨t, rfl⟩, q⟩
  cases dp with
  | non =>
    obtain rfl : u = Value.none := ru
    refine PySem.P.repr_of_none ?_
    have := fin s.heap (s.toks + 1) (fun _ _ z => z) s.toks
    simpa only [PyData.shown_none] using this
  | bl b =>
    obtain rfl : u = Value.bool b := ru
    refine PySem.P.repr_of_bool ?_
    have := fin s.heap (s.toks + 1) (fun _ _ z => z) s.toks
    simp only [PyData.shown_bool] at this
    cases b <;> exact this
  | int i =>
    obtain ⟨t, rfl⟩ := ru
    refine PySem.P.repr_of_int (by simpa [PyData.showable] using hs) ?_
    have := fin s.heap (s.toks + 1) (fun _ _ z => z) s.toks
    simpa only [PyData.shown_int] using this
  | str y =>
    obtain ⟨t, rfl⟩ := ru
    refine PySem.P.repr_of_str ?_ (by simpa only [PyData.shown_str] using hz)
    have := fin s.heap (s.toks + 1) (fun _ _ z => z) s.toks
    simpa only [PyData.shown_str] using this
  | @lst a ys ds sq da =>
    obtain rfl : u = Value.ref a := ru
    exact repr_of_reads' rd hs (fun z => absurd z (by rw [hnd]; decide)) gd hu (fun _ _ z => z) (fun h' t tk hk => fin h' tk hk t) hz
  | @tup a ys ds sq da =>
    obtain rfl : u = Value.ref a := ru
    exact repr_of_reads' rd hs (fun z => absurd z (by rw [hnd]; decide)) gd hu (fun _ _ z => z) (fun h' t tk hk => fin h' tk hk t) hz
end
end Spk

namespace Spk
open PySem PySem.Spec PyProof.Rows L2
section
variable {P : Program} {w : World} {K : PySem.W.Frag} {mg mb : Str → Option Value} {k : Nat} {fa a : Addr} {fd : FuncData} {x : Str} {sp : Sp} {t : Shared} {zs : List Value} {ns : List Int}
def Fin1 (t : Shared) (r : Result) (u : Shared) : Prop := r = .ok (.ret (.bool true)) ∧ OldK t.heap u.heap ∧ u.os = t.os ∧ AllBare u.gens
/-- the law's call, from a heap that tracks nothing but the script (or nothing) -/
theorem coreG {J : Hp} (KX : K.In t.heap) (hns : t.heap.Ns mainGlobals mg) (hb : t.heap.Ns builtinsNs mb) (hbb : ∀ y : Str, y ≠ "__name__" → mb y = bootBuiltins y) (hlim : t.heap.NoLimit) (hg : t.gens = #[])
    (ha : t.heap.get? a = some { cls := .type "list", data := .seq zs.toArray }) (rm : Room k callerA)
    (F : ∀ bh : Heap, K.In bh → bh.Ns mainGlobals mg → FnG P w K mg bh k fa fd [x] sp) (bi : ∀ (s : Shared) (u : Value), BindsTo s fd ⟨[u], []⟩ [(x, u)])
    (hO : Only J) (hok : HOk P w J t.heap) (hA : ∀ b, J b ≠ none → b = a) (hK : J a ≠ none → K.lookup a = none)
    (hsp : sp [.ref a] J (fun v _ => v = .bl true) E0) : codeAny (model P w) callerA (.call (.ref fa) ⟨[.ref a], []⟩) (Fin1 t) t := by
  have gone : ∀ b o es ep, t.heap.get? b = some o → o.data = .dict es ep → J b = none := by
    intro b o es ep e d
    cases q : J b with
    | none => rfl
    | some u =>
      obtain rfl : b = a := hA b (by rw [q]; exact fun z => nomatch z)
      obtain rfl : _ = o := Option.some.inj (ha.symm.trans e)
      exact nomatch (show Data.seq zs.toArray _ = Data.dict es ep from d)
  have ns' : ∀ b m, t.heap.Ns b m → (hidT t.heap J).Ns b m := by
    rintro b m ⟨o, es, ep, e, d, r⟩
    exact ⟨o, es, ep, hidT_get e (gone b o es ep e d), d, r⟩
  have kb : K.In (hidT t.heap J) := by
    intro b o e
    refine hidT_get (KX b o e) ?_
    cases q : J b with
    | none => rfl
    | some u =>
      obtain rfl : b = a := hA b (by rw [q]; exact fun z => nomatch z)
      exact absurd e (by rw [hK (by rw [q]; exact fun z => nomatch z)]; exact fun z => nomatch z)
  have md : Mod K mg (hidT t.heap J) := ⟨kb, ns' _ _ hns, ⟨mb, ns' _ _ hb, hbb⟩, hlim.imp fun mc h => ⟨ns' _ _ h.1, h.2⟩⟩
  have e0 : Env0 P w K mg (hidT t.heap J) callerA [] t J :=
    { frames := rfl, mod := md, bs := fun _ _ e => of_hidT e, bsz := Nat.le_of_eq (hidT_size _ _), funs := trivial, frf := (fun _ h => nomatch h), hok := hok, bare := .of_eq hg }
  refine codeAny_mono ((F _ kb (ns' _ _ hns)).runG callerA [] t J ⟨[.ref a], []⟩ [.ref a] [.ref a] _ E0 rfl rm e0 (bi t (.ref a)) (.cons rfl .nil) hsp) fun r u h => ?_
  match r, h with
  | .ok (.ret y), h =>
    obtain ⟨v, J', os, bare, un, hok', ry, q⟩ := h
    obtain rfl : v = .bl true := q
    obtain rfl : y = Value.bool true := ry
    refine ⟨rfl, OldK.of_keep fun b o e => ?_, os, bare⟩
    rcases hO b with z | ⟨ob, xs, z⟩
    · exact un.keep b o e z (fun h => nomatch h) (fun h => nomatch h)
    · have e1 := (hok b _ z).1
      have e2 := (hok' b _ (un.frzs b ob _ z)).1
      exact e2.trans (e1.symm.trans e)
theorem lawG (KX : K.In t.heap) (hns : t.heap.Ns mainGlobals mg) (hb : t.heap.Ns builtinsNs mb) (hbb : ∀ y : Str, y ≠ "__name__" → mb y = bootBuiltins y) (hlim : t.heap.NoLimit) (hg : t.gens = #[])
    (ha : t.heap.get? a = some { cls := .type "list", data := .seq zs.toArray }) (hi : IntsAre zs ns) (hl : ns.length ≤ sizeLine) (rm : Room k callerA)
    (F : ∀ bh : Heap, K.In bh → bh.Ns mainGlobals mg → FnG P w K mg bh k fa fd [x] sp) (bi : ∀ (s : Shared) (u : Value), BindsTo s fd ⟨[u], []⟩ [(x, u)])
    (hsp : ∀ J : Hp, Only J → SqL K J a (ns.map V.int) → sp [.ref a] J (fun v _ => v = .bl true) E0) :
    codeAny (model P w) callerA (.call (.ref fa) ⟨[.ref a], []⟩) (Fin1 t) t := by
  have rv : Vals (ns.map V.int) zs := vals_ints hi
  have ll : zs.length ≤ sizeLine := by rw [← rv.length, List.length_map]; exact hl
  cases hk : K.lookup a with
  | some o =>
    obtain rfl : _ = o := Option.some.inj (ha.symm.trans (KX a o hk))
    have sq : SqL K (fun _ => none) a (ns.map V.int) := Or.inr ⟨_, zs.toArray, _, hk, rfl, rfl, rfl, by simpa using ll, by simpa using rv⟩
    exact coreG KX hns hb hbb hlim hg ha rm F bi (fun _ => Or.inl rfl) (fun _ _ z => nomatch z) (fun _ z => absurd rfl z) (fun z => absurd rfl z) (hsp _ (fun _ => Or.inl rfl) sq)
  | none =>
    let J : Hp := fun b => if b = a then some (.frz { cls := .type "list", data := .seq zs.toArray } (.lst (ns.map V.int))) else none
    have ja : J a = some (.frz { cls := .type "list", data := .seq zs.toArray } (.lst (ns.map V.int))) := if_pos rfl
    have jn : ∀ b, b ≠ a → J b = none := fun b h => if_neg h
    have ho : Only J := fun b => (Classical.em (b = a)).elim (fun e => Or.inr ⟨_, _, e ▸ ja⟩) fun e => Or.inl (jn b e)
    refine coreG KX hns hb hbb hlim hg ha rm F bi ho (fun b u z => ?_) (fun b z => Classical.byContradiction fun e => z (jn b e)) (fun _ => hk) (hsp J ho (Or.inl (Or.inr ⟨_, ja⟩)))
    by_cases e : b = a
    · subst e
      obtain rfl := Option.some.inj (ja.symm.trans z)
      exact ⟨ha, by rw [List.length_map]; exact hl, zs, _, rv, ha⟩
    · exact absurd ((jn b e).symm.trans z) fun z => nomatch z
end
theorem walkG {l : PySem.W.OpenLaw} {n k : Nat} {q : Program} {lo : List Str} {XP : (Str → Option Value) → Heap → Prop} {YP : World → Heap → Prop} {d : DefRec} {K : Params → PySem.W.Frag} {sp : World → Sp} {x : Str}
    (hn : l.most = some n) (hn2 : n ≤ sizeLine) (hdf : d.params.defaults = []) (rm : Room k callerA) (hY : ∀ (w : World) (h : Heap), YP w h → (K w.params).In h)
    (F : ∀ (w : World) (mg : Str → Option Value) (fa : Addr) (h : Heap), (K w.params).In h → h.Ns mainGlobals mg → mg d.name = some (.ref fa) →
      ∃ fd : FuncData, (∀ (s : Shared) (u : Value), BindsTo s fd ⟨[u], []⟩ [(x, u)]) ∧
        ∀ bh : Heap, (K w.params).In bh → bh.Ns mainGlobals mg → FnG l.prog w (K w.params) mg bh k fa fd [x] (sp w))
    (hsp : ∀ (w : World) (J : Hp) (a : Addr) (ns : List Int), ns.length ≤ n → Only J → SqL (K w.params) J a (ns.map V.int) → sp w [.ref a] J (fun v _ => v = .bl true) E0) :
    PySem.W.WalkO q lo XP YP l.row.toRowW d [] (fun f vs => PySem.call f vs) := by
  refine Att.attach_call hn hdf fun w s₀ t mg mb fa o pm cd doc a zs ns G Y ho hd hcd hmg hobj hints hlen hg => ?_
  obtain ⟨fd, bi, hF⟩ := F w mg fa _ (hY w _ Y) G.T.g hmg
  exact lawG (hY w _ Y) G.T.g G.T.b G.T.builtins G.T.nolimit hg hobj hints (Nat.le_trans hlen hn2) rm hF bi fun J hO hS => hsp w J a ns hlen hO hS
end Spk

namespace Spk
open PySem PySem.Spec PyProof.Rows L2
open AutoSeq1 (wpAny_loadPart')
theorem enumT_new (t : Addr) (its : Array Value) (n : Nat) (dct : Option Addr) (sl : Array (Option Value)) :
    Meets (Builtin.«enumerate.__new__» ⟨[.type "enumerate", .ref t], []⟩) (fun _ R s => s.heap.get? t = some { cls := .type "tuple", dict := dct, data := .seq its n, slots := sl } ∧
      R (.ok (.ret (.ref (s.heap.push { cls := .type "tuple_iterator", data := .fields #[.ref t, .int 0 0] }).objs.size)))
        { s with heap := (s.heap.push { cls := .type "tuple_iterator", data := .fields #[.ref t, .int 0 0] }).push { cls := .type "enumerate", data := .fields #[.none, .bool false, .ref s.heap.objs.size, rawInt 0, .none, .none] } }) :=
  .of_wp fun prog w A R s h => by
    obtain ⟨hp, g, d, tk, os⟩ := s; obtain ⟨ht, h⟩ := h
    have hsub := sub_enumerate
    have hT : Heap.IsTuple (Shared.heap ⟨hp, g, d, tk, os⟩) t its := ⟨_, ht, rfl, n, rfl⟩
    wp_walk using wpAny_loadPart' ht
    refine wpAny_stack_any fun st => wpAny_pure ?_
    split
    · rename_i c _ _ _ _ _
      cases (c == Value.type "enumerate") <;> (wp_walk using wpAny_loadPart' ht, wpAny_pyIter_tuple hT; exact ⟨_, rfl, h⟩)
    · wp_walk using wpAny_loadPart' ht, wpAny_pyIter_tuple hT
      exact ⟨_, rfl, h⟩
theorem mem2 {α : Type} {b x y : α} (h : b ∈ [x, y]) : b = x ∨ b = y := by simpa using h
section
variable {prog : Program} {w : World} {A : Around} {E : Value → Shared → Prop} {s : Shared}
theorem enumT_call {t : Addr} {its : Array Value} {Q : Value → Shared → Prop} (hT : s.heap.IsTuple t its)
    (h : ∀ g, IsEnum g (s.heap.objs.size + 1) s.heap.objs.size 0 .none → g.IsTupleIter s.heap.objs.size t 0 → g.objs.size = s.heap.objs.size + 2 →
      (∀ b o, s.heap.get? b = some o → g.get? b = some o) → Q (.ref (s.heap.objs.size + 1)) { s with heap := g }) :
    wpAny (model prog w) A (call (.type "enumerate") [.ref t]) Q E s := by
  obtain ⟨⟨c, dct, dt, sl⟩, ht, hc, n, hd⟩ := hT
  obtain rfl : c = .type "tuple" := hc
  obtain rfl : dt = .seq its n := hd
  refine callType_new F.called_enumerate (by decide) (F.typeCall_enumerate_1 _) (F.newCall_enumerate_1 _) (fun ob => F.args_object_init_2 ob _) F.entry_enumerate_new (enumT_new t its n dct sl) ⟨ht, ?_⟩
  have hz : (s.heap.push { cls := .type "tuple_iterator", data := .fields #[.ref t, .int 0 0] }).objs.size = s.heap.objs.size + 1 := Heap.size_push ..
  show _ ∧ _
  rw [hz]
  have he : IsEnum ((s.heap.push { cls := .type "tuple_iterator", data := .fields #[.ref t, .int 0 0] }).push
      { cls := .type "enumerate", data := .fields #[.none, .bool false, .ref s.heap.objs.size, rawInt 0, .none, .none] }) (s.heap.objs.size + 1) s.heap.objs.size 0 .none := by
    have q := Heap.get?_push_size (s.heap.push { cls := .type "tuple_iterator", data := .fields #[.ref t, .int 0 0] })
      (o := { cls := .type "enumerate", data := .fields #[.none, .bool false, .ref s.heap.objs.size, rawInt 0, .none, .none] }) rfl
    rw [hz] at q; exact q
  exact ⟨⟨_, he, rfl⟩, h _ he ⟨_, Heap.get?_push_of_some _ (Heap.get?_push_size _ rfl), rfl, rfl⟩ (by rw [Heap.size_push, hz]) fun b o q => Heap.get?_push_of_some _ (Heap.get?_push_of_some _ q)⟩
end
/-- enumerate(tuple): each item in a new pair -/
def ItE (K : PySem.W.Frag) (a : Addr) : It where
  go := fun i H => ∃ (xs : List V) (x : V), SqT K H a xs ∧ xs[i]? = some x
  yld := fun i H v H' => ∃ T x, v = .ref T ∧ H T = none ∧ H' = upd H T (.tup [.int (i : Nat), x]) ∧ ∀ xs, SqT K H a xs → xs[i]? = some x
  stop := fun i H => ∃ xs : List V, SqT K H a xs ∧ xs.length ≤ i
theorem turnE {P : Program} {w : World} {K : PySem.W.Frag} {elts : List Expr} {kk : Nat} {tpos : Pos} (a e it : Addr) (hai : a ≠ it) (hae : e ≠ a) :
    Turn P w K (.Tuple elts kk tpos) (ItE K a) [e, it] e (fun i h => (∃ old, IsEnum h e it ((i : Nat) : Int) old) ∧ h.IsTupleIter it a i ∧ e ≠ it) where
  mem := List.mem_cons_self
  obj := by
    rintro i h ⟨⟨old, he⟩, ⟨o, ho, hc, hd⟩, _⟩ b hb
    rcases mem2 hb with rfl | rfl
    · exact ⟨_, he, fun v q => nomatch q⟩
    · exact ⟨o, ho, fun v q => by rw [hd] at q; cases q⟩
  keep := by
    rintro i h h' ⟨⟨old, he⟩, hi, hne⟩ k
    exact ⟨⟨old, k e (by simp) _ he⟩, hi.at fun o q => k it (by simp) o q, hne⟩
  item := by
    intro X hP hw hK hc i pins s σ H E I hf st hg
    subst hP hw hK
    obtain ⟨⟨old, he⟩, hit, hne⟩ := st
    obtain ⟨xs, x, hq, hx⟩ := hg
    obtain ⟨its, rv, p, hz⟩ := I.tuple hq
    obtain ⟨u, hu, ru⟩ := rv.get hx
    have hu' : its.toArray[i]? = some u := by simpa using hu
    have hlt : i < its.toArray.size := by
      obtain ⟨h1, _⟩ := Array.getElem?_eq_some_iff.mp hu'
      exact h1
    have hT : s.heap.IsTuple a its.toArray := p
    have hel : e < s.heap.objs.size := Heap.lt_size he
    have hil : it < s.heap.objs.size := by obtain ⟨_, q, _⟩ := hit; exact Heap.lt_size q
    have D := Draws.tuple (prog := X.prog) (w := X.w) (A := X.A.in1) (I.ok.hd hc) it a hai its.toArray
    refine wpAny_pyNext_enum_itemD D he ⟨hit, hT⟩ hlt hne (fun hm => ?_) fun y g tk hy ho hst hTp hsz hk => ?_
    · rcases mem2 hm with z | z
      · exact hne z
      · exact hae z
    · obtain rfl : u = y := Option.some.inj (hu'.symm.trans hy)
      refine ⟨_, rfl, wpAny_letOwnedTupleGo_enum (s := { s with heap := g, toks := tk + 1 }) ho fun g2 he2 sb => ?_⟩
      have hT2 : g2.get? s.heap.objs.size = some { cls := .type "tuple", data := .seq #[.int i tk, u] } := (sb.2 _ (Nat.ne_of_gt hel)).trans hTp
      have new : ObjOk X.prog X.w (upd H s.heap.objs.size (.tup [.int (i : Nat), x])) g2 s.heap.objs.size (.tup [.int (i : Nat), x]) :=
        ⟨by show 2 ≤ sizeLine; decide, [.int i tk, u], .cons ⟨_, rfl⟩ (.cons ru .nil), ⟨_, hT2, rfl, _, rfl⟩⟩
      have I1 : Inv X pins σ (upd H s.heap.objs.size (.tup [.int (i : Nat), x])) { s with heap := g2, toks := tk + 1 } := by
        refine I.turnedNew (ch := [e, it]) (fun b ob hb q => ?_) hf (Nat.le_refl _) new
        have n1 : b ≠ e := fun z => hb (by simp [z])
        have n2 : b ≠ it := fun z => hb (by simp [z])
        exact (sb.2 b n1).trans (hk b ob n1 n2 q)
      refine ⟨.ref s.heap.objs.size, _, I1, rfl, ⟨_, x, rfl, I.hok.fresh (Nat.le_refl _), rfl, fun ys hy => by rw [I.tuple_inj hy hq]; exact hx⟩, ⟨⟨u, ?_⟩, hst.1.at fun o q => (sb.2 it (Ne.symm hne)).trans q, hne⟩, fun b hb => ?_⟩
      · have e1 : ((i + 1 : Nat) : Int) = (i : Int) + 1 := by omega
        rw [e1]; exact he2
      · have hlb : b < s.heap.objs.size := by rcases mem2 hb with rfl | rfl <;> assumption
        exact (upd_ne (Nat.ne_of_lt hlb)).trans (hf b hb).1
  done := by
    intro X hP hw hK hc i pins s σ H E I hf st hg
    subst hP hw hK
    obtain ⟨⟨old, he⟩, hit, hne⟩ := st
    obtain ⟨xs, hq, hx⟩ := hg
    obtain ⟨its, rv, p, hz⟩ := I.tuple hq
    obtain ⟨f0, f1, f2, f3, f4, f5⟩ := hf it (by simp)
    have hT : s.heap.IsTuple a its.toArray := p
    have hl := rv.length
    have hT2 : its.toArray[i]? = none := by simp; omega
    refine (show wpAny (model X.prog X.w) X.A (pyNext (.ref e)) _ E s from ?_)
    have hTy : s.TypeIs (.ref e) "enumerate" := ⟨_, he, rfl⟩
    unfold pyNext
    refine wpAny_bind (wpAny_attempt (wpAny_callSpecial?_slot (name := Str.ofString "__next__") hTy F.slot_enumerate_next
      (wpAny_call_entry F.slot_enumerate_next hTy F.entry_enumerate_next ?_ (F.args_enumerate_next_1 _))))
    show wpAny _ _ (field (.ref e) 2 >>= _) _ _ _
    refine wpAny_bind (wpAny_field he rfl (x := .ref it) rfl ?_)
    refine wpAny_bind (wpAny_nextOf_tuple_end (I.ok.hd hc) hit hT hT2 fun g x eb hx' => ?_)
    obtain ⟨o, ho, hcl⟩ := hx'
    refine wpAny_bind (wpAny_isInstance (T := "StopIteration") (b := true) ⟨o, ho, hcl⟩ isSubtype_stop ?_)
    exact wpAny_pure ⟨rfl, I.turned (t' := s.toks) (fun b o hb q => eb b o hb q) f0 f1 f3 f4 f5⟩
  self := by
    rintro A i s Q E ⟨⟨_, he⟩, _⟩ h
    exact wpAny_pyIter_enum he h
theorem walkE {K : PySem.W.Frag} {a : Addr} {xs : List V} : Walk (ItE K a) xs.length (fun H => SqT K H a xs) (YPair (fun i => some (.int (i : Nat))) (fun i => xs[i]?)) where
  goes := fun i _ hi q => ⟨xs, xs[i], q, by simp [hi]⟩
  stops := fun _ q => ⟨xs, q, Nat.le_refl _⟩
  yields := by
    rintro i H v H' _ q ⟨T, x, h1, h2, h3, h4⟩
    exact ⟨T, .int (i : Nat), x, h1, h2, h3, rfl, h4 xs q⟩
/-- a list or a tuple -/
def Sq (K : PySem.W.Frag) (H : Hp) (a : Addr) (xs : List V) : Prop := SqL K H a xs ∨ SqT K H a xs
/-- what was read at a is still to be read there -/
def SqK (K : PySem.W.Frag) (H H' : Hp) (a : Addr) (xs : List V) : Prop := (SqL K H a xs → SqL K H' a xs) ∧ (SqT K H a xs → SqT K H' a xs)
/-- enumerate(x), x a list or a tuple -/
def iEn (K : PySem.W.Frag) (ta : TA) : TI := fun σ H R => ta σ H fun vs H1 => ∃ a xs, vs = [.ref a] ∧ Sq K H1 a xs ∧
  ∀ J, Walk J xs.length (fun H => SqK K H1 H a xs) (YPair (fun i => some (.int (i : Nat))) (fun i => xs[i]?)) → R J H1
/-- x, a list or a tuple -/
def iSq (K : PySem.W.Frag) (tl : TE) : TI := fun σ H R => tl σ H fun x H1 => ∃ a xs, x = .ref a ∧ Sq K H1 a xs ∧
  ∀ J, Walk J xs.length (fun H => SqK K H1 H a xs) (YAt xs) → R J H1
section
variable {X : Cx}
theorem pi_en {e : Expr} {ta : TA} {p pos tpos : Pos} {elts : List Expr} {kk : Nat} (hg : Gl X "enumerate") (hm : X.mg "enumerate" = none) (ha : PA X [e] ta) (hs : starEach [e] X.env = [(false, eval e X.env)] := by rfl) :
    PI X (.Tuple elts kk tpos) (.Call (.Name "enumerate" p) [e] [] pos) (iEn X.K ta) := by
  refine ⟨fun pins s σ H R I h => Call_ (ld_blt I hg hm boot_enumerate (PyProof.Rows.callWith_type1 (thn (ha.run pos pins s σ H _ I h) fun us s1 hh => ?_) hs rfl))⟩
  obtain ⟨vs, H1, I1, r1, a, xs, rfl, hq, q⟩ := hh
  obtain ⟨u, rfl, ru⟩ := vals1 r1
  obtain rfl : u = Value.ref a := ru
  have fp : ∀ b ∈ [s1.heap.objs.size + 1, s1.heap.objs.size], FpOk X pins H1 b := fun b hb => by
    have hle : s1.heap.objs.size ≤ b := by rcases mem2 hb with rfl | rfl <;> omega
    exact I1.fpOk hle (I1.hok.fresh hle)
  rcases hq with hq | hq
  · obtain ⟨its, rv, p', hz⟩ := I1.list hq
    refine call_enumerate_list p'.isList fun g he hit hsz hk => wpAny_pyIter_enum he ?_
    exact ⟨s1.heap.objs.size + 1, [s1.heap.objs.size + 1, s1.heap.objs.size], _, _, H1, rfl, I1.kept (t' := s1.toks) hk, turn_enum a _ _, ⟨⟨.none, he⟩, hit, Nat.succ_ne_self _⟩, fp, q _ (walk_enum.mono (fun _ z => z.1 hq) fun _ _ _ _ _ _ y => y)⟩
  · obtain ⟨its, rv, p', hz⟩ := I1.tuple hq
    have hT : s1.heap.IsTuple a its.toArray := p'
    have hlt : a < s1.heap.objs.size := by obtain ⟨_, z, _⟩ := hT; exact Heap.lt_size z
    refine enumT_call hT fun g he hit hsz hk => wpAny_pyIter_enum he ?_
    exact ⟨s1.heap.objs.size + 1, [s1.heap.objs.size + 1, s1.heap.objs.size], _, _, H1, rfl, I1.kept (t' := s1.toks) hk, turnE a _ _ (Nat.ne_of_lt hlt) (Nat.ne_of_gt (Nat.lt_succ_of_lt hlt)), ⟨⟨.none, he⟩, hit, Nat.succ_ne_self _⟩, fp, q _ (walkE.mono (fun _ z => z.2 hq) fun _ _ _ _ _ _ y => y)⟩
theorem pi_sq {tg l : Expr} {tl : TE} (hl : PE X l tl) : PI X tg l (iSq X.K tl) := by
  refine ⟨fun pins s σ H R I h => thn (hl.run pins s σ H _ I h) fun v s1 hh => ?_⟩
  obtain ⟨x, H1, I1, r1, a, xs, rfl, hq, q⟩ := hh
  obtain rfl : v = Value.ref a := r1
  have fp : ∀ b ∈ [s1.heap.objs.size], FpOk X pins H1 b := fun b hb => by
    obtain rfl : b = s1.heap.objs.size := by simpa using hb
    exact I1.fpOk (Nat.le_refl _) (I1.hok.fresh (Nat.le_refl _))
  rcases hq with hq | hq
  · obtain ⟨its, rv, p, hz⟩ := I1.list hq
    exact wpAny_pyIter_list p.isList ⟨s1.heap.objs.size, [s1.heap.objs.size], _, _, H1, rfl, I1.kept (t' := s1.toks) fun _ _ z => Heap.get?_push_of_some _ z, turn_list a _, ⟨_, Heap.get?_push_size _ rfl, rfl, rfl⟩, fp, q _ (walk_list.mono (fun _ z => z.1 hq) fun _ _ _ _ _ _ y => y)⟩
  · obtain ⟨its, rv, p, hz⟩ := I1.tuple hq
    have hT : s1.heap.IsTuple a its.toArray := p
    exact wpAny_pyIter_tuple hT ⟨s1.heap.objs.size, [s1.heap.objs.size], _, _, H1, rfl, I1.kept (t' := s1.toks) fun _ _ z => Heap.get?_push_of_some _ z, turn_tuple a _, ⟨_, Heap.get?_push_size _ rfl, rfl, rfl⟩, fp, q _ (walk_tup.mono (fun _ z => z.2 hq) fun _ _ _ _ _ _ y => y)⟩
end
end Spk

namespace Spk
open PySem PySem.Spec PyProof.Rows L2
/-! ### a def that may be called -/
structure Rdy (P : Program) (w : World) (K : PySem.W.Frag) (mg : Str → Option Value) (bh : Heap) (x : Str) (k : Nat) (ps : List Str) (sp : Sp) (f : Addr) (fd : FuncData) : Prop where
  ok : FnOk P w K mg bh CX0 k f fd ps sp
  gl : mg x = some (.ref f)
  kp : PySem.W.keepIn K (.ref f) = true
  bd : Binds K fd ps []
/-- a def with defaults -/
structure RdyD (P : Program) (w : World) (K : PySem.W.Frag) (mg : Str → Option Value) (bh : Heap) (x : Str) (k : Nat) (ps : List Str) (dvs : List V) (sp : Sp) (f : Addr) (fd : FuncData) : Prop where
  ok : FnOk P w K mg bh CX0 k f fd ps sp
  gl : mg x = some (.ref f)
  kp : PySem.W.keepIn K (.ref f) = true
  bd : Binds K fd ps []
  bd1 : ∃ ds, Vals dvs ds ∧ Binds K fd ps ds
section
variable {X : Cx} {x : Str} {k j : Nat} {ps : List Str} {dvs : List V} {sp : Sp} {f : Addr} {fd : FuncData} {p pos : Pos} {e : Expr} {es : List Expr} {t : TA}
theorem pe_rdy (R : Rdy X.prog X.w X.K X.mg X.base x k ps sp f fd) (rm : Room j X.A) (hj : k ≤ j) (hg : Gl X x) (ha : PA X (e :: es) t) (hdb : (x == ("__debug__" : Str)) = false := by decide)
    (he : starEach (e :: es) X.env = (false, eval e X.env) :: starEach es X.env := by rfl) (hpl : (backTo pos (starEach es X.env)).any (·.1) = false := by rfl) :
    PE X (.Call (.Name x p) (e :: es) [] pos) (tCall sp [] E0 t) := pe_call R.ok (rm.mono hj) hg R.gl R.kp R.bd .nil pass0 ha hdb he hpl
theorem pe_rdyD (R : RdyD X.prog X.w X.K X.mg X.base x k ps dvs sp f fd) (rm : Room j X.A) (hj : k ≤ j) (hg : Gl X x) (ha : PA X (e :: es) t) (hdb : (x == ("__debug__" : Str)) = false := by decide)
    (he : starEach (e :: es) X.env = (false, eval e X.env) :: starEach es X.env := by rfl) (hpl : (backTo pos (starEach es X.env)).any (·.1) = false := by rfl) :
    PE X (.Call (.Name x p) (e :: es) [] pos) (tCall sp [] E0 t) := pe_call R.ok (rm.mono hj) hg R.gl R.kp R.bd .nil pass0 ha hdb he hpl
/-- the last argument left out -/
theorem pe_rdyD1 (R : RdyD X.prog X.w X.K X.mg X.base x k ps dvs sp f fd) (rm : Room j X.A) (hj : k ≤ j) (hg : Gl X x) (ha : PA X (e :: es) t) (hdb : (x == ("__debug__" : Str)) = false := by decide)
    (he : starEach (e :: es) X.env = (false, eval e X.env) :: starEach es X.env := by rfl) (hpl : (backTo pos (starEach es X.env)).any (·.1) = false := by rfl) :
    PE X (.Call (.Name x p) (e :: es) [] pos) (tCall sp dvs E0 t) := by
  obtain ⟨ds, hv, bd⟩ := R.bd1
  exact pe_call R.ok (rm.mono hj) hg R.gl R.kp bd hv pass0 ha hdb he hpl
/-! ### a word between a statement and what follows -/
def tMid (t u : TS) : TS := fun D σ H => ∃ M : L2.St → Hp → Prop, t { D with nx := M } σ H ∧ ∀ τ J, M τ J → u D τ J
theorem pss_mid {st : Stmt} {sts : List Stmt} {t u : TS} (a : PS X st t) (b : PSs X sts u) : PSs X (st :: sts) (tMid t u) := by
  refine ⟨fun pins s σ H D I h => h.elim fun M h => ?_⟩
  refine wpAny_execs_cons (thn (a.run pins s σ H { D with nx := M } I h.1) fun fl s1 q => ?_)
  match fl, q with
  | .next, q =>
    obtain ⟨τ, J, I', q⟩ := q
    exact b.run pins s1 τ J D I' (h.2 τ J q)
  | .ret _, q => exact q
  | .brk, q => exact q
  | .cont, q => exact q
/-- an item of a tuple, the written part named -/
theorem ix_tupK {K : PySem.W.Frag} (h : X.K = K := by rfl) : IxR X (rIxT K) := h ▸ ix_tup
theorem ix_listK {K : PySem.W.Frag} (h : X.K = K := by rfl) : IxR X (rIxL K) := h ▸ ix_list
/-! ### constants of the module, of a class -/
theorem pe_globI {i : Int} (h : ∃ t, X.mg x = some (.int i t)) (hg : Gl X x) (hd : (x == ("__debug__" : Str)) = false := by decide) : PE X (.Name x pos) (tC (.int i)) := by
  obtain ⟨t, h⟩ := h
  exact pe_glob hg h ⟨t, rfl⟩ hd
/-- the class Ends, as the top has left it -/
structure EndsT (K : PySem.W.Frag) (mg : Str → Option Value) : Prop where
  ex : ∃ (C : Addr) (mc u1 u2 : Value), mg "Ends" = some (.ref C) ∧ ClX.CRead K C mc ∧ ClX.CVal K C mc "HALF" (.str "half") u1 ∧ ClX.CVal K C mc "SHUT" (.str "shut") u2
theorem pe_half (h : EndsT X.K X.mg) (hg : Gl X "Ends") (hb : attributeBase (.Name "Ends" p) "HALF" X.env (eval (.Name "Ends" p) X.env) = eval (.Name "Ends" p) X.env := by rfl) :
    PE X (.Attribute (.Name "Ends" p) "HALF" pos) (tC (.str "half")) := by
  obtain ⟨C, mc, u1, u2, g, r, a, b⟩ := h.ex
  have q := ClX.pe_cval (X := X) (f := "HALF") (pos := pos) (pe_glob (v := .ref C) (pos := p) hg g rfl) hb
  exact ⟨fun pins s σ H R I z => q.run pins s σ H R I ⟨C, mc, _, u1, rfl, r, a, z⟩⟩
theorem pe_shut (h : EndsT X.K X.mg) (hg : Gl X "Ends") (hb : attributeBase (.Name "Ends" p) "SHUT" X.env (eval (.Name "Ends" p) X.env) = eval (.Name "Ends" p) X.env := by rfl) :
    PE X (.Attribute (.Name "Ends" p) "SHUT" pos) (tC (.str "shut")) := by
  obtain ⟨C, mc, u1, u2, g, r, a, b⟩ := h.ex
  have q := ClX.pe_cval (X := X) (f := "SHUT") (pos := pos) (pe_glob (v := .ref C) (pos := p) hg g rfl) hb
  exact ⟨fun pins s σ H R I z => q.run pins s σ H R I ⟨C, mc, _, u2, rfl, r, b, z⟩⟩
end

/-! ### defs with defaults, calls by keywords alone -/
section
variable {P : Program} {w : World} {K : PySem.W.Frag} {mg : Str → Option Value} {bh : Heap} {x qu : Str} {st : Stmt} {dvs : List V} {f : Addr} {fd : FuncData} {N ps : List Str} {k : Nat} {sp : Sp}
theorem okD (F : FunD K x qu (defArgs st) (defBody st) (defScope st) dvs [] f fd) (S : FnScope N ps (defScope st)) (ln : ∀ vs H Q E, sp vs H Q E → vs.length = ps.length)
    (hb : ∀ (cv : Value) (B : Around) (ou : List Env) (t : Shared) (J : Hp) (ws : List V) (R : VK) (U : XK), Room k (B.deeper (envOfC qu (defScope st) t.heap.objs.size f cv)) → sp ws J R U →
      ∃ tr, PSs (cxOf CX0 P w K mg bh N qu (defScope st) f cv B ou t J U).nox (defBody st) tr ∧ tr { nx := fun _ J' => R .non J', rt := R } (L2.start N ws) J) :
    FnOk P w K mg bh CX0 (k + 1) f fd ps sp := F.ok S ln fun cv B ou t J ws R U rm h => by
  obtain ⟨tr, q, z⟩ := hb cv B ou t J ws R U rm h
  exact ⟨tr, q.nox, z⟩
theorem bindsFull (F : FunD K x qu (defArgs st) (defBody st) (defScope st) dvs [] f fd) (hd : dvs ≠ [])
    (h : ∀ (T : Addr) (kV dc pm : Value) (an : Option Addr) (cv ct : Value) (us its : List Value), us.length = ps.length → its.length = dvs.length →
      ∃ kk, bindArgs (PySem.W.fnOf x qu (defArgs st) (defBody st) (defScope st) (.ref T) kV dc pm an cv ct) ⟨us, []⟩ = seqItems? (.ref T) >>= kk ∧ kk (some its.toArray) = pure (ps.zip us)) : Binds K fd ps [] := by
  obtain ⟨ds, hv, bd⟩ := FunD.binds1 (ps := ps) F ps.length dvs.length hd (by omega) fun T kV dc pm an cv ct us its h1 h2 => by
    obtain ⟨kk, e1, e2⟩ := h T kV dc pm an cv ct us its h1 h2
    have : its.drop dvs.length = [] := List.drop_eq_nil_of_le (by omega)
    rw [this, List.append_nil]
    exact ⟨kk, e1, e2⟩
  have e : dvs.drop dvs.length = [] := List.drop_eq_nil_of_le (Nat.le_refl _)
  rw [e] at hv
  cases hv
  exact bd
theorem kwAll (F : FunD K x qu (defArgs st) (defBody st) (defScope st) dvs [] f fd) (ks : List Str) (g : {α : Type} → List α → List α) (hd : dvs ≠ []) (hrel : ∀ {zs : List V} {ws : List Value}, Vals zs ws → Vals (g zs) (g ws))
    (h : ∀ (T : Addr) (kV dc pm : Value) (an : Option Addr) (cv ct : Value) (its ws : List Value), its.length = dvs.length → ws.length = ks.length →
      ∃ kk, bindArgs (PySem.W.fnOf x qu (defArgs st) (defBody st) (defScope st) (.ref T) kV dc pm an cv ct) ⟨[], ks.zip ws⟩ = seqItems? (.ref T) >>= kk ∧ kk (some its.toArray) = pure (ps.zip (g ws))) :
    KBn K fd ps 0 ks (fun _ ws => g ws) (fun _ zs => g zs) := by
  obtain ⟨oc, od, dV, kV, dc, pm, an, cv, ct, sl, rfl, lk, hcd, hD, hK⟩ := F.ex
  rcases hD with ⟨e, _⟩ | ⟨_, T, o, its, m, rfl, lT, oT, rT⟩
  · exact absurd e hd
  · refine ⟨fun s us ws X l1 l2 => ?_, fun _ r2 => hrel r2⟩
    obtain rfl : us = [] := List.length_eq_zero_iff.mp l1
    obtain ⟨kk, e1, e2⟩ := h T kV dc pm an cv ct its ws rT.length.symm l2
    refine BindsTo.of_looks fun M => ?_
    rw [e1]
    exact looks_items X lT oT (.of_pure e2)
end
section
variable {X : Cx} {k j : Nat} {f : Addr} {fd : FuncData} {ps ks : List Str} {sp : Sp} {x : Str} {p pos : Pos} {kws : List Keyword} {tk : TA} {g : List Value → List Value → List Value} {gV : List V → List V → List V}
/-- f(k = v, ..) without a positional argument -/
theorem pe_kw0 (F : FnOk X.prog X.w X.K X.mg X.base CX0 k f fd ps sp) (rm : Room j X.A) (hj : k ≤ j) (hg : Gl X x) (hm : X.mg x = some (.ref f)) (hk : PySem.W.keepIn X.K (.ref f) = true) (hb : KBn X.K fd ps 0 ks g gV) (hkw : PK X kws tk)
    (hall : (backToKw pos (keywordEach kws X.env)).all (·.1.isSome) = true := by rfl) (hks : (backToKw pos (keywordEach kws X.env)).filterMap (·.1) = ks := by rfl) (hdb : (x == ("__debug__" : Str)) = false := by decide)
    (hpl : ((backTo pos (starEach [] X.env)).any (·.1) || (backToKw pos (keywordEach kws X.env)).any (·.1.isNone)) = false := by rfl) :
    PE X (.Call (.Name x p) [] kws pos) (tCallN 0 ks.length sp gV E0 tNil tk) := by
  refine ⟨fun pins s σ H Q I h => wpAny_Call_Name_kw (ld_glob I hg hm ?_ hdb)⟩
  refine PySem.W.callWith_KW0 (h₀ := X.base) I.ok.mod.kin hk hall (thn (hkw.run pos pins s σ H _ I h) fun ws s2 hh => ?_) hpl
  obtain ⟨zs, H2, I2, rz, l1, l2, q2⟩ := hh
  refine ⟨I2.kIn, ?_⟩
  rw [hks]
  exact run_fnN (us := []) (vs := []) F (rm.mono hj) hb pass0 I2 .nil rz rfl l2 q2
end
/-! ### heaps -/
theorem SqL.hp {K : PySem.W.Frag} {H : Hp} {a : Addr} {xs : List V} (h : H a = some (.lst xs)) : SqL K H a xs := .inl (.inl h)
theorem SqT.hp {K : PySem.W.Frag} {H : Hp} {a : Addr} {xs : List V} (h : H a = some (.tup xs)) : SqT K H a xs := .inl (.inl h)
/-- all that was tracked, but for what stands at p, is as it was -/
def Kp (p : Addr) (H H' : Hp) : Prop := ∀ b o, b ≠ p → H b = some o → H' b = some o
theorem Kp.refl {p : Addr} {H : Hp} : Kp p H H := fun _ _ _ h => h
theorem Kp.trans {p : Addr} {H H1 H2 : Hp} (a : Kp p H H1) (b : Kp p H1 H2) : Kp p H H2 := fun c o n h => b c o n (a c o n h)
theorem Kp.same {p : Addr} {H H' : Hp} (a : Same H H') : Kp p H H' := fun c o _ h => a c o h
theorem Kp.new {p q : Addr} {H : Hp} {o : HO} (h : H q = none) : Kp p H (upd H q o) := fun b u _ e => by rw [upd_ne (ne_of_none e h)]; exact e
theorem Kp.at_ {p : Addr} {H : Hp} {o : HO} : Kp p H (upd H p o) := fun b u n e => by rw [upd_ne n]; exact e
theorem Same.new {q : Addr} {H : Hp} {o : HO} (h : H q = none) : Same H (upd H q o) := fun b u e => by rw [upd_ne (ne_of_none e h)]; exact e
theorem Same.free' {H H' : Hp} (s : Same H H') {l : Addr} (h : H' l = none) : H l = none := Same.free s h
theorem sameT {K : PySem.W.Frag} {H H' : Hp} {a : Addr} {xs : List V} (e : Same H H') (h : SqT K H a xs) : SqT K H' a xs := by
  rcases h with (h | ⟨o, h⟩) | h
  · exact .inl (.inl (e _ _ h))
  · exact .inl (.inr ⟨o, e _ _ h⟩)
  · exact .inr h
theorem sameK {K : PySem.W.Frag} {H H' : Hp} {a : Addr} {xs : List V} (e : Same H H') : SqK K H H' a xs := ⟨e.seq, sameT e⟩
theorem sameQ {K : PySem.W.Frag} {H H' : Hp} {a : Addr} {xs : List V} (e : Same H H') (h : Sq K H a xs) : Sq K H' a xs := h.imp e.seq (sameT e)
theorem kpL {K : PySem.W.Frag} {p : Addr} {H H' : Hp} {a : Addr} {xs : List V} (e : Kp p H H') (n : a ≠ p) (h : SqL K H a xs) : SqL K H' a xs := by
  rcases h with (h | ⟨o, h⟩) | h
  · exact .inl (.inl (e _ _ n h))
  · exact .inl (.inr ⟨o, e _ _ n h⟩)
  · exact .inr h
mutual
theorem sameD {K : PySem.W.Frag} {H H' : Hp} (e : Same H H') : ∀ (d : PyData) {v : V}, Dp K H v d → Dp K H' v d
  | .none, _, h => by cases h; exact .non
  | .bool b, _, h => by cases h; exact .bl b
  | .int i, _, h => by cases h; exact .int i
  | .str x, _, h => by cases h; exact .str x
  | .list ds, _, h => by
    cases h with
    | lst q r => exact .lst (e.seq q) (sameDs e ds r)
  | .tuple ds, _, h => by
    cases h with
    | tup q r => exact .tup (sameT e q) (sameDs e ds r)
  | .dict _, _, h => by cases h
theorem sameDs {K : PySem.W.Frag} {H H' : Hp} (e : Same H H') : ∀ (ds : List PyData) {vs : List V}, DpAll K H vs ds → DpAll K H' vs ds
  | [], _, h => by cases h; exact .nil
  | d :: ds, _, h => by
    cases h with
    | cons a b => exact .cons (sameD e d a) (sameDs e ds b)
end
end Spk

namespace Spk
open PySem PySem.Spec PyProof.Rows L2
section
variable {X : Cx} {e : Expr} {te : TE} {p2 pos q1 q2 : Pos} {j : Nat}
/-- xs[::-1] of a list: a new list -/
theorem pe_rev (he : PE X e te) : PE X (.Subscript e (.Slice none none (some (.UnaryOp .USub (.Constant (.int 1) j q1) q2)) p2) pos)
    (fun σ H Q => te σ H fun x H1 => ∃ a xs, x = .ref a ∧ SqL X.K H1 a xs ∧ ∀ p, H1 p = none → Q (.ref p) (upd H1 p (.lst xs.reverse))) := by
  refine ⟨fun pins s σ H Q I h => ?_⟩
  refine Subscript_ (thn (he.run pins s σ H _ I h) fun v s1 ⟨x, H1, I1, r1, q1'⟩ => ?_)
  refine wpAny_Slice ?_
  rw [evalPart_none]
  refine wpAny_pure (wpAny_pure ?_)
  have hk : PO X (some (.UnaryOp .USub (.Constant (.int 1) j q1) q2)) _ := po_some (pe_un un_neg pe_int)
  refine thn (hk.run pins s1 σ H1 (fun k H2 => k = some (-1) ∧ ∃ a xs, x = .ref a ∧ SqL X.K H2 a xs ∧ ∀ p, H2 p = none → Q (.ref p) (upd H2 p (.lst xs.reverse))) I1 ⟨_, rfl, _, rfl, rfl, q1'⟩) fun vk s3 ⟨k, H3, I3, pk, ek, a, xs, ex, hx, q⟩ => ?_
  subst ek
  subst ex
  obtain rfl : v = Value.ref a := r1
  have I4 : Inv X pins σ H3 { s3 with heap := s3.heap.push { cls := .type "slice", data := .fields #[.none, .none, vk] } } := I3.kept (t' := s3.toks) fun b ob q => Heap.get?_push_of_some _ q
  show wpAny (model X.prog X.w) X.A (subscriptTail e (.Slice none none (some (.UnaryOp .USub (.Constant (.int 1) j q1) q2)) p2) (.ref a) (.ref s3.heap.objs.size)) (EP X pins σ Q) X.xe { s3 with heap := s3.heap.push { cls := .type "slice", data := .fields #[.none, .none, vk] } }
  obtain ⟨its, r, ht, hz⟩ := I4.list hx
  have hlen := r.length
  refine tail_any (ops := [.ref a, .ref s3.heap.objs.size]) ht.isList.typeIs slot_list_getitem.lookup ?_ (by with_unfolding_all rfl)
  refine wpAny_getItem_list_slice ht.isList (Heap.IsSliceOf.new ..) .none .none pk (by decide) ?_ (by rw [List.size_toArray] <;> omega)
  rw [PySem.W.krv_pick]
  refine ⟨.ref _, _, I4.laid (t' := s3.toks) (o := .lst xs.reverse) (fun b ob q => Heap.get?_push_of_some _ q) (Nat.le_refl _) ?_, rfl, q _ (I4.hok.fresh (Nat.le_refl _))⟩
  refine ⟨by rw [List.length_reverse]; exact hz, its.reverse, 0, ?_, ?_⟩
  · have : ∀ {zs : List V} {ws : List Value} {as : List V} {bs : List Value}, Vals zs ws → Vals as bs → Vals (zs.reverseAux as) (ws.reverseAux bs) := by
      intro zs
      induction zs with
      | nil => intro ws as bs h k; cases h; exact k
      | cons z zs ih =>
        intro ws as bs h k
        cases h with
        | @cons _ u _ us a b =>
          show Vals (zs.reverseAux (z :: as)) (us.reverseAux (u :: bs))
          exact ih b (.cons a k)
    exact this r .nil
  · exact Heap.get?_push_size _ rfl
end
end Spk

namespace Spk
open PySem PySem.Spec PyProof.Rows L2
/-! ### any objects, as data -/
def isNum : PyData → Bool
  | .int _ => true
  | _ => false
def intish : PyData → Bool
  | .int _ => true
  | .bool _ => true
  | _ => false
def boolish : PyData → Bool
  | .bool _ => true
  | _ => false
def tupish : PyData → Bool
  | .tuple _ => true
  | _ => false
def tyN : PyData → String
  | .none => "NoneType"
  | .bool _ => "bool"
  | .int _ => "int"
  | .str _ => "str"
  | .list _ => "list"
  | .tuple _ => "tuple"
  | .dict _ => "dict"
def edgeI (i : Int) : Bool := (decide (-1000000000000000000000000000000 ≤ i) && decide (i ≤ 1000000000000000000000000000000)) || (decide (i = -10000000000000000000000000000000) || decide (i = 10000000000000000000000000000000))
def isEdge : PyData → Bool
  | .int i => edgeI i
  | _ => false
def isPair : PyData → Bool
  | .tuple [a, b] => isEdge a && isEdge b
  | _ => false
def strP (p : Pr) : Bool := edgeI p.1 && edgeI p.2 && (decide (p.1 ≤ p.2) && (decide (p.1 < 10000000000000000000000000000000) && decide (-10000000000000000000000000000000 < p.2)))
/-- the data of a pair -/
def prD (p : Pr) : PyData := .tuple [.int p.1, .int p.2]
def isStr : PyData → Bool
  | .tuple [.int a, .int b] => strP (a, b)
  | _ => false
section
variable {K : PySem.W.Frag} {H : Hp} {v : V} {d : PyData}
theorem dpTy (h : Dp K H v d) : TyX K H v (.type (tyN d)) := by
  cases h with
  | non => exact .base .non
  | bl b => exact .base (.bl b)
  | int i => exact .base (.int i)
  | str x => exact .base (.str x)
  | lst q r =>
    rcases q with (q | ⟨o, q⟩) | ⟨o, its, n, q, c, _⟩
    · exact .base (.lst q)
    · exact .base (.frz q)
    · exact .kList q c
  | tup q r =>
    rcases q with (q | ⟨o, q⟩) | ⟨o, its, n, q, c, _⟩
    · exact .base (.tup q)
    · exact .fTuple q
    · exact .kTuple q c
theorem kitInt (d : PyData) : kitB (tyN d) "int" = some (intish d) := by cases d <;> simp only [tyN, intish] <;> decide +kernel
theorem kitBool (d : PyData) : kitB (tyN d) "bool" = some (boolish d) := by cases d <;> simp only [tyN, boolish] <;> decide +kernel
theorem kitTup (d : PyData) : kitB (tyN d) "tuple" = some (tupish d) := by cases d <;> simp only [tyN, tupish] <;> decide +kernel
theorem isNum_eq (d : PyData) : isNum d = (intish d && !boolish d) := by cases d <;> rfl
end
theorem inV2 (i a b : Int) : inV (.int i) [.int a, .int b] = (decide (i = a) || decide (i = b)) := by
  have e : ∀ a : Int, eqV (.int a) (.int i) = decide (i = a) := fun a => by
    show (a == i) = decide (i = a)
    by_cases h : i = a
    · rw [h, decide_eq_true rfl]; exact beq_self_eq_true a
    · rw [decide_eq_false h]; exact beq_eq_false_iff_ne.mpr (Ne.symm h)
  show (eqV (.int a) (.int i) || (eqV (.int b) (.int i) || false)) = _
  rw [e, e, Bool.or_false]
theorem dpAll_len {K : PySem.W.Frag} {H : Hp} : ∀ {vs : List V} {ds : List PyData}, DpAll K H vs ds → vs.length = ds.length
  | _, _, .nil => rfl
  | _, _, .cons _ t => congrArg Nat.succ (dpAll_len t)
theorem tup_of {K : PySem.W.Frag} {H : Hp} {v : V} {d : PyData} (h : Dp K H v d) (c : tupish d = true) : ∃ a xs ds, v = .ref a ∧ d = .tuple ds ∧ SqT K H a xs ∧ DpAll K H xs ds := by
  cases h with
  | tup sq da => exact ⟨_, _, _, rfl, rfl, sq, da⟩
  | _ => cases c
theorem int_of {K : PySem.W.Frag} {H : Hp} {v : V} {d : PyData} (h : Dp K H v d) (c : isNum d = true) : ∃ i, v = .int i ∧ d = .int i := by
  cases h with
  | int i => exact ⟨i, rfl, rfl⟩
  | _ => cases c
theorem dpAll2 {K : PySem.W.Frag} {H : Hp} {xs : List V} {ds : List PyData} (h : DpAll K H xs ds) (l : xs.length = 2) : ∃ x y d1 d2, xs = [x, y] ∧ ds = [d1, d2] ∧ Dp K H x d1 ∧ Dp K H y d2 := by
  cases h with
  | nil => simp at l
  | cons h1 h =>
    cases h with
    | nil => simp at l
    | cons h2 h =>
      cases h with
      | nil => exact ⟨_, _, _, _, rfl, rfl, h1, h2⟩
      | cons _ _ => simp at l
theorem dpPr {K : PySem.W.Frag} {H : Hp} {v : V} {a b : Int} (h : Dp K H v (.tuple [.int a, .int b])) : ∃ p, v = .ref p ∧ SqT K H p [.int a, .int b] := by
  cases h with
  | tup sq da =>
    cases da with
    | cons h1 h =>
      cases h with
      | cons h2 h =>
        cases h; cases h1; cases h2
        exact ⟨_, rfl, sq⟩
theorem isPair_len {ds : List PyData} (h : ds.length ≠ 2) : isPair (.tuple ds) = false := by
  unfold isPair
  split
  · rename_i e
    cases e
    exact absurd rfl h
  · rfl
theorem isPair_not {d : PyData} (h : ¬ tupish d = true) : isPair d = false := by
  cases d with
  | tuple _ => exact absurd rfl h
  | _ => rfl
theorem isEdge_not {d : PyData} (h : ¬ isNum d = true) : isEdge d = false := by
  cases d with
  | int _ => exact absurd rfl h
  | _ => rfl
theorem edge_of {d : PyData} (h : isEdge d = true) : ∃ a, d = .int a ∧ edgeI a = true := by
  unfold isEdge at h
  split at h
  · exact ⟨_, rfl, h⟩
  · cases h
theorem pair_of {d : PyData} (h : isPair d = true) : ∃ a b, d = .tuple [.int a, .int b] ∧ edgeI a = true ∧ edgeI b = true := by
  unfold isPair at h
  split at h
  · rw [Bool.and_eq_true] at h
    obtain ⟨a, rfl, ha⟩ := edge_of h.1
    obtain ⟨b, rfl, hb⟩ := edge_of h.2
    exact ⟨a, b, rfl, ha, hb⟩
  · cases h
theorem isStr_not {d : PyData} (h : ¬ isPair d = true) : isStr d = false := by
  unfold isStr
  split
  · rename_i a b
    have : (edgeI a && edgeI b) = false := by
      rw [← Bool.not_eq_true]
      exact h
    unfold strP
    rw [this, Bool.false_and]
  · rfl
theorem str_of {d : PyData} (h : isStr d = true) : ∃ a b, d = prD (a, b) ∧ strP (a, b) = true := by
  unfold isStr at h
  split at h
  · exact ⟨_, _, rfl, h⟩
  · cases h
/-- refs to tuples of two ints -/
def Pd (H : Hp) : List Addr → List Pr → Prop
  | [], [] => True
  | t :: ts, p :: ps => H t = some (.tup [.int p.1, .int p.2]) ∧ Pd H ts ps
  | _, _ => False
theorem Pd.len {H : Hp} : ∀ {ts : List Addr} {ps : List Pr}, Pd H ts ps → ts.length = ps.length
  | [], [], _ => rfl
  | t :: ts, p :: ps, h => by simp [Pd.len h.2]
  | [], _ :: _, h => h.elim
  | _ :: _, [], h => h.elim
theorem Pd.same {H H' : Hp} (e : Same H H') : ∀ {ts : List Addr} {ps : List Pr}, Pd H ts ps → Pd H' ts ps
  | [], [], _ => trivial
  | t :: ts, p :: ps, h => ⟨e _ _ h.1, Pd.same e h.2⟩
  | [], _ :: _, h => h.elim
  | _ :: _, [], h => h.elim
/-- what changes is no tuple -/
theorem Pd.kp {q : Addr} {H H' : Hp} (e : Kp q H H') (hq : ∀ xs, H q ≠ some (.tup xs)) : ∀ {ts : List Addr} {ps : List Pr}, Pd H ts ps → Pd H' ts ps
  | [], [], _ => trivial
  | t :: ts, p :: ps, h => ⟨e _ _ (fun z => hq _ (z ▸ h.1)) h.1, Pd.kp e hq h.2⟩
  | [], _ :: _, h => h.elim
  | _ :: _, [], h => h.elim
theorem Pd.get {H : Hp} : ∀ {ts : List Addr} {ps : List Pr}, Pd H ts ps → ∀ {i : Nat} {t : Addr}, ts[i]? = some t → ∃ p, ps[i]? = some p ∧ H t = some (.tup [.int p.1, .int p.2])
  | [], [], _, i, t, h => by simp at h
  | t :: ts, p :: ps, h, 0, t', e => by
    simp at e; subst e
    exact ⟨p, rfl, h.1⟩
  | t :: ts, p :: ps, h, i + 1, t', e => by
    obtain ⟨q, h1, h2⟩ := Pd.get h.2 (i := i) (t := t') (by simpa using e)
    exact ⟨q, by simpa using h1, h2⟩
  | [], _ :: _, h, _, _, _ => h.elim
  | _ :: _, [], h, _, _, _ => h.elim
theorem Pd.app {H : Hp} : ∀ {ts : List Addr} {ps : List Pr} {us : List Addr} {qs : List Pr}, Pd H ts ps → Pd H us qs → Pd H (ts ++ us) (ps ++ qs)
  | [], [], _, _, _, h => h
  | t :: ts, p :: ps, _, _, h, k => ⟨h.1, Pd.app h.2 k⟩
  | [], _ :: _, _, _, h, _ => h.elim
  | _ :: _, [], _, _, h, _ => h.elim
theorem Pd.set {H : Hp} : ∀ {ts : List Addr} {ps : List Pr} (i : Nat) {t : Addr} {p : Pr}, Pd H ts ps → H t = some (.tup [.int p.1, .int p.2]) → Pd H (ts.set i t) (ps.set i p)
  | [], [], _, _, _, h, _ => h
  | t :: ts, p :: ps, 0, _, _, h, k => ⟨k, h.2⟩
  | t :: ts, p :: ps, i + 1, _, _, h, k => ⟨h.1, Pd.set i h.2 k⟩
  | [], _ :: _, _, _, _, h, _ => h.elim
  | _ :: _, [], _, _, _, h, _ => h.elim
theorem Pd.dp {K : PySem.W.Frag} {H : Hp} : ∀ {ts : List Addr} {ps : List Pr}, Pd H ts ps → DpAll K H (ts.map V.ref) (ps.map prD)
  | [], [], _ => .nil
  | t :: ts, p :: ps, h => .cons (.tup (SqT.hp h.1) (.cons (.int _) (.cons (.int _) .nil))) (Pd.dp h.2)
  | [], _ :: _, h => h.elim
  | _ :: _, [], h => h.elim
/-- the draws of a law -/
def BagAt (H : Hp) (p : Addr) (c : Int) : Prop := ∃ b0 b1 b2 b3 : Int, H p = some (.lst [.int b0, .int b1, .int b2, .int b3]) ∧ 0 ≤ b0 ∧ 0 ≤ b1 ∧ b1 < 2305843009213693951 ∧ 0 ≤ b2 ∧ b2 ≤ 1073741824 ∧ 0 ≤ b3 ∧ b3 ≤ c
theorem BagAt.mono {H : Hp} {p : Addr} {c d : Int} (h : BagAt H p c) (e : c ≤ d) : BagAt H p d := by
  obtain ⟨b0, b1, b2, b3, h0, h1, h2, h3, h4, h5, h6, h7⟩ := h
  exact ⟨b0, b1, b2, b3, h0, h1, h2, h3, h4, h5, h6, by omega⟩
theorem BagAt.same {H H' : Hp} {p : Addr} {c : Int} (h : BagAt H p c) (e : Same H H') : BagAt H' p c := by
  obtain ⟨b0, b1, b2, b3, h0, h1⟩ := h
  exact ⟨b0, b1, b2, b3, e _ _ h0, h1⟩
theorem BagAt.lst {H : Hp} {p : Addr} {c : Int} (h : BagAt H p c) : ∃ xs, H p = some (.lst xs) := by
  obtain ⟨b0, b1, b2, b3, h0, h1⟩ := h
  exact ⟨_, h0⟩
/-- all but the bag at p is as it was, what was free too -/
def But (p : Addr) (H H' : Hp) : Prop := ∀ b, b ≠ p → H' b = H b
theorem But.kp {p : Addr} {H H' : Hp} (h : But p H H') : Kp p H H' := fun b o n e => (h b n).trans e
theorem But.trans {p : Addr} {H H1 H2 : Hp} (a : But p H H1) (b : But p H1 H2) : But p H H2 := fun c n => (b c n).trans (a c n)
theorem But.refl {p : Addr} {H : Hp} : But p H H := fun _ _ => rfl
theorem lgDiv {i m : Int} (h0 : 0 < m) (h : m ≤ 1000000000000000000000000000000000000000000000) : CDivW i m :=
  wide_div (b := 200) h0 (by omega) (by decide) (by decide)
theorem vals_rev2 {zs : List V} {ws : List Value} (r : Vals zs ws) : Vals zs.reverse ws.reverse := by
  have : ∀ {zs : List V} {ws : List Value} {as : List V} {bs : List Value}, Vals zs ws → Vals as bs → Vals (zs.reverseAux as) (ws.reverseAux bs) := by
    intro zs
    induction zs with
    | nil => intro ws as bs h k; cases h; exact k
    | cons z zs ih =>
      intro ws as bs h k
      cases h with
      | @cons _ u _ us a b =>
        show Vals (zs.reverseAux (z :: as)) (us.reverseAux (u :: bs))
        exact ih b (.cons a k)
  exact this r .nil
end Spk
namespace Spk
open PySem PySem.Spec PyProof.Rows L2
theorem eqvAllPs : ∀ ps qs : List Pr, PyData.eqvAll (ps.map prD) (qs.map prD) = decide (ps = qs)
  | [], [] => rfl
  | p :: ps, [] => rfl
  | [], q :: qs => rfl
  | p :: ps, q :: qs => by
    show (((p.1 == q.1) && ((p.2 == q.2) && true)) && PyData.eqvAll (ps.map prD) (qs.map prD)) = decide (p :: ps = q :: qs)
    rw [eqvAllPs ps qs]
    obtain ⟨a, b⟩ := p
    obtain ⟨c, d⟩ := q
    by_cases h1 : a = c <;> by_cases h2 : b = d <;> by_cases h3 : ps = qs <;> simp [h1, h2, h3]
theorem eqvPs (ps qs : List Pr) : PyData.eqv (.list (ps.map prD)) (.list (qs.map prD)) = decide (ps = qs) := eqvAllPs ps qs
theorem canLayPs : ∀ ps : List Pr, PyData.canLayAll0 (ps.map prD) = true
  | [] => rfl
  | p :: ps => by
    show (PyData.canLay0 (prD p) && PyData.canLayAll0 (ps.map prD)) = true
    rw [canLayPs ps]; rfl
theorem depthPs : ∀ ps : List Pr, PyData.depthAll (ps.map prD) ≤ 1
  | [] => Nat.zero_le _
  | p :: ps => by
    show max (PyData.depth (prD p)) (PyData.depthAll (ps.map prD)) ≤ 1
    exact Nat.max_le.mpr ⟨by show PyData.depth (.tuple [.int p.1, .int p.2]) ≤ 1; simp [PyData.depth, PyData.depthAll], depthPs ps⟩
theorem shapedPs (ps : List Pr) : SeqAt.shaped (.list (ps.map prD)) = true := by
  have h1 : PyData.canLay0 (.list (ps.map prD)) = true := canLayPs ps
  have h2 : PyData.depth (.list (ps.map prD)) ≤ 64 := by
    have := depthPs ps
    simp only [PyData.depth]; omega
  unfold SeqAt.shaped
  rw [h1, decide_eq_true h2]; rfl
theorem dpAll_get {K : PySem.W.Frag} {H : Hp} : ∀ {xs : List V} {ds : List PyData}, DpAll K H xs ds → ∀ {i : Nat} {x : V}, xs[i]? = some x → ∃ d, d ∈ ds ∧ Dp K H x d
  | _, _, .nil, i, x, h => by simp at h
  | _, _, .cons a t, 0, x, h => by
    simp at h; subst h
    exact ⟨_, List.mem_cons_self, a⟩
  | _, _, .cons a t, i + 1, x, h => by
    obtain ⟨d, h1, h2⟩ := dpAll_get t (i := i) (x := x) (by simpa using h)
    exact ⟨d, List.mem_cons_of_mem _ h1, h2⟩
def endsV (z : Bool) : V := if z then .str "shut" else .str "half"
theorem endsV_shut (z : Bool) : decide (endsV z = .str "shut") = z := by cases z <;> decide +kernel
theorem endsV_half (z : Bool) : decide (endsV z = .str "half") = !z := by cases z <;> decide +kernel
theorem endsV_scal (z : Bool) : scal (endsV z) (.str "shut") = true := by cases z <;> rfl
theorem endsV_scalH (z : Bool) : scal (endsV z) (.str "half") = true := by cases z <;> rfl
theorem strP_le {p : Pr} (h : strP p = true) : p.1 ≤ p.2 := by
  unfold strP at h
  simp only [Bool.and_eq_true, decide_eq_true_eq] at h
  exact h.2.1
theorem map_get {α β : Type} {f : α → β} {l : List α} {i : Nat} {y : β} (h : (l.map f)[i]? = some y) : ∃ x, l[i]? = some x ∧ y = f x := by
  rw [List.getElem?_map] at h
  cases e : l[i]? with
  | none => rw [e] at h; cases h
  | some x => rw [e] at h; exact ⟨x, rfl, (Option.some.inj h).symm⟩
theorem take_more {α : Type} {l : List α} {i : Nat} {x : α} (h : l[i]? = some x) : l.take (i + 1) = l.take i ++ [x] := by
  rw [List.take_add_one, h]; rfl
theorem stepJ_len (l : List Pr) (s : List Pr × Pr) : ((l.foldl stepJ s).1).length ≤ s.1.length + l.length := by
  induction l generalizing s with
  | nil => exact Nat.le_refl _
  | cons p r ih =>
    have h := ih (stepJ s p)
    have : (stepJ s p).1.length ≤ s.1.length + 1 := by unfold stepJ; split <;> simp
    simp only [List.foldl_cons, List.length_cons]; omega
theorem stepJ_len0 (l : List Pr) (p : Pr) : ((l.foldl stepJ ([], p)).1).length ≤ l.length := by
  have := stepJ_len l ([], p)
  simpa using this
end Spk
namespace Spk
open PySem PySem.Spec PyProof.Rows L2
/-- the pair that a ref's tuple holds -/
def kOf (H : Hp) : V → Int × Int
  | .ref t => match H t with
    | some (.tup [.int a, .int b]) => (a, b)
    | _ => (0, 0)
  | _ => (0, 0)
theorem kOf_at {H : Hp} {t : Addr} {p : Pr} (h : H t = some (.tup [.int p.1, .int p.2])) : kOf H (.ref t) = p := by
  show (match H t with | some (.tup [.int a, .int b]) => (a, b) | _ => (0, 0)) = p
  rw [h]
theorem Pd.map {H : Hp} : ∀ {ts : List Addr} {ps : List Pr}, Pd H ts ps → (ts.map V.ref).map (kOf H) = ps
  | [], [], _ => rfl
  | t :: ts, p :: ps, h => by
    show kOf H (.ref t) :: (ts.map V.ref).map (kOf H) = p :: ps
    rw [kOf_at h.1, Pd.map h.2]
  | [], _ :: _, h => h.elim
  | _ :: _, [], h => h.elim
theorem Pd.all {H : Hp} : ∀ {ts : List Addr} {ps : List Pr}, Pd H ts ps → ∀ x ∈ ts.map V.ref, ∃ t, x = V.ref t ∧ H t = some (.tup [.int (kOf H x).1, .int (kOf H x).2])
  | [], [], _, x, hx => by simp at hx
  | t :: ts, p :: ps, h, x, hx => by
    rcases List.mem_cons.mp (show x ∈ V.ref t :: ts.map V.ref from hx) with e | hx
    · exact ⟨t, e, by rw [e, kOf_at h.1]; exact h.1⟩
    · exact Pd.all h.2 x hx
  | [], _ :: _, h, _, _ => h.elim
  | _ :: _, [], h, _, _ => h.elim
theorem refs_of {H : Hp} : ∀ {ys : List V}, (∀ x ∈ ys, ∃ t, x = V.ref t ∧ H t = some (.tup [.int (kOf H x).1, .int (kOf H x).2])) → ∃ us, ys = us.map V.ref ∧ Pd H us (ys.map (kOf H))
  | [], _ => ⟨[], rfl, trivial⟩
  | y :: ys, h => by
    obtain ⟨t, e, ht⟩ := h y (by simp)
    obtain ⟨us, e2, pd⟩ := refs_of (ys := ys) fun x hx => h x (by simp [hx])
    exact ⟨t :: us, by rw [e, e2]; rfl, ht, pd⟩
theorem ltP_ple {k : V → Int × Int} {x y : V} (h : ltP k y x = false) : ple (k x) (k y) := by
  have h2 : ¬ (SrtO.lexB (k y) (k x) = true) := by rw [show SrtO.lexB (k y) (k x) = false from h]; decide
  rw [SrtO.lexB_iff] at h2
  unfold ple
  omega
/-- sorted of refs to pairs -/
theorem sorted_refs {H : Hp} {ts : List Addr} {ps : List Pr} {ys : List V} (pd : Pd H ts ps) (hs : SrtO.Srtd (ltP (kOf H)) ys) (hb : SrtO.Stb (ltP (kOf H)) ys (ts.map V.ref)) :
    ∃ us, ys = us.map V.ref ∧ Pd H us (srt ps) := by
  obtain ⟨us, e, pu⟩ := refs_of (H := H) (ys := ys) fun x hx => pd.all x (hb.perm.mem_iff.mp hx)
  have hp : (ys.map (kOf H)).Perm ps := by
    have := hb.perm.map (kOf H)
    rwa [pd.map] at this
  have hso : (ys.map (kOf H)).Pairwise ple := List.pairwise_map.mpr (hs.imp fun h => ltP_ple h)
  have e2 : ys.map (kOf H) = srt ps := sorted_uniq hso (srt_sorted ps) (hp.trans (srt_perm ps).symm)
  exact ⟨us, e, e2 ▸ pu⟩
end Spk
namespace Spk
open PySem PySem.Spec PyProof.Rows L2
theorem gapd_iff : ∀ {l : List Pr}, gapd l = true ↔ ∀ i p q, l[i]? = some p → l[i + 1]? = some q → p.2 < q.1
  | [] => ⟨fun _ i p q h _ => by simp at h, fun _ => rfl⟩
  | [x] => ⟨fun _ i p q _ h => by simp at h, fun _ => rfl⟩
  | x :: y :: r => by
    have ih := gapd_iff (l := y :: r)
    constructor
    · intro h i p q hp hq
      unfold gapd at h
      rw [Bool.and_eq_true, decide_eq_true_eq] at h
      cases i with
      | zero => simp at hp hq; subst hp hq; exact h.1
      | succ i => exact ih.mp h.2 i p q (by simpa using hp) (by simpa using hq)
    · intro h
      unfold gapd
      rw [Bool.and_eq_true, decide_eq_true_eq]
      exact ⟨h 0 x y rfl rfl, ih.mpr fun i p q hp hq => h (i + 1) p q (by simpa using hp) (by simpa using hq)⟩
/-- what the first i pairs have, if the list is in one form so far -/
def oneTo (z : Bool) (l : List Pr) (i : Nat) : Prop := ∀ j, j < i → ∀ p, l[j]? = some p → emp z p = false ∧ ∀ k q, j = k + 1 → l[k]? = some q → q.2 < p.1
theorem oneTo_all {z : Bool} {l : List Pr} (h : oneTo z l l.length) : oneF z l = true := by
  unfold oneF
  rw [Bool.and_eq_true, List.all_eq_true]
  constructor
  · intro p hp
    obtain ⟨j, hj⟩ := List.mem_iff_getElem?.mp hp
    have hlt : j < l.length := by
      obtain ⟨h1, _⟩ := List.getElem?_eq_some_iff.mp hj
      exact h1
    rw [(h j hlt p hj).1]; rfl
  · refine gapd_iff.mpr fun i p q hp hq => ?_
    have hlt : i + 1 < l.length := by
      obtain ⟨h1, _⟩ := List.getElem?_eq_some_iff.mp hq
      exact h1
    exact (h (i + 1) hlt q hq).2 i p rfl hp
theorem oneF_empty {z : Bool} {l : List Pr} {i : Nat} {p : Pr} (hp : l[i]? = some p) (e : emp z p = true) : oneF z l = false := by
  rw [← Bool.not_eq_true]
  intro h
  unfold oneF at h
  rw [Bool.and_eq_true, List.all_eq_true] at h
  have := h.1 p (List.mem_of_getElem? hp)
  rw [e] at this
  cases this
theorem oneF_gap {z : Bool} {l : List Pr} {i : Nat} {p q : Pr} (hp : l[i]? = some p) (hq : l[i + 1]? = some q) (e : ¬ p.2 < q.1) : oneF z l = false := by
  rw [← Bool.not_eq_true]
  intro h
  unfold oneF at h
  rw [Bool.and_eq_true] at h
  exact e (gapd_iff.mp h.2 i p q hp hq)
theorem oneTo_more {z : Bool} {l : List Pr} {i : Nat} {p : Pr} (h : oneTo z l i) (hp : l[i]? = some p) (e : emp z p = false) (g : ∀ k q, i = k + 1 → l[k]? = some q → q.2 < p.1) : oneTo z l (i + 1) := by
  intro j hj x hx
  by_cases c : j < i
  · exact h j c x hx
  · obtain rfl : j = i := by omega
    obtain rfl : p = x := Option.some.inj (hp.symm.trans hx)
    exact ⟨e, g⟩
theorem emp_half {p : Pr} (h : p.1 ≤ p.2) : emp false p = decide (p.1 = p.2) := by
  show decide (p.2 ≤ p.1) = decide (p.1 = p.2)
  rw [decide_eq_decide]; omega
theorem emp_shut {p : Pr} (h : p.1 ≤ p.2) : emp true p = false := by
  show decide (p.2 < p.1) = false
  rw [decide_eq_false_iff_not]; omega
end Spk
namespace Spk
open PySem PySem.Spec PyProof.Rows L2
theorem mulB {x f F : Int} (h1 : -1 ≤ x) (h2 : x ≤ 6) (f0 : 0 ≤ f) (fF : f ≤ F) : -F ≤ x * f ∧ x * f ≤ 6 * F := by
  have : x = -1 ∨ x = 0 ∨ x = 1 ∨ x = 2 ∨ x = 3 ∨ x = 4 ∨ x = 5 ∨ x = 6 := by omega
  rcases this with h | h | h | h | h | h | h | h <;> subst h <;> omega
theorem rowStep {f at' X Y : Int} {i : Nat} (f1 : 1 ≤ f) (f2 : f ≤ 200000000000000000001) (hi : i < 21) (x1 : -1 ≤ X) (x2 : X ≤ 3) (y1 : 0 ≤ Y) (y2 : Y ≤ 3)
    (a1 : -(200000000000000000001 * (20 + 6 * (i : Int))) ≤ at') (a2 : at' ≤ 200000000000000000001 * (20 + 6 * (i : Int))) :
    (-1000000000000000000000000000000 ≤ at' + X * f ∧ at' + X * f ≤ at' + (X + Y) * f ∧ at' + (X + Y) * f ≤ 1000000000000000000000000000000) ∧
      (-(200000000000000000001 * (20 + 6 * (((i + 1 : Nat) : Nat) : Int))) ≤ at' + (X + Y) * f ∧ at' + (X + Y) * f ≤ 200000000000000000001 * (20 + 6 * (((i + 1 : Nat) : Nat) : Int))) := by
  obtain ⟨p1, p2⟩ := mulB (x := X) (f := f) (F := 200000000000000000001) (by omega) (by omega) (by omega) f2
  obtain ⟨q1, q2⟩ := mulB (x := X + Y) (f := f) (F := 200000000000000000001) (by omega) (by omega) (by omega) f2
  have e : (X + Y) * f = X * f + Y * f := Int.add_mul X Y f
  have y0 : 0 ≤ Y * f := Int.mul_nonneg y1 (by omega)
  generalize (X + Y) * f = w at *
  generalize X * f = u at *
  generalize Y * f = v at *
  omega
theorem strP_of {b e : Int} (h1 : -1000000000000000000000000000000 ≤ b) (h2 : b ≤ e) (h3 : e ≤ 1000000000000000000000000000000) : strP (b, e) = true := by
  unfold strP edgeI
  simp only [Bool.and_eq_true, Bool.or_eq_true, decide_eq_true_eq]
  omega
theorem strP_first {p : Pr} (h : strP p = true) : strP (-10000000000000000000000000000000, p.2) = true := by
  obtain ⟨a, b⟩ := p
  unfold strP edgeI at h ⊢
  simp only [Bool.and_eq_true, Bool.or_eq_true, decide_eq_true_eq] at h ⊢
  simp only [Int.reduceNeg, Int.reduceLE, Int.reduceLT, Int.reduceEq, true_and, and_true, true_or, or_true, false_or, or_false, false_and, and_false]
  omega
theorem strP_last {p : Pr} (h : strP p = true) : strP (p.1, 10000000000000000000000000000000) = true := by
  obtain ⟨a, b⟩ := p
  unfold strP edgeI at h ⊢
  simp only [Bool.and_eq_true, Bool.or_eq_true, decide_eq_true_eq] at h ⊢
  simp only [Int.reduceNeg, Int.reduceLE, Int.reduceLT, Int.reduceEq, true_and, and_true, true_or, or_true, false_or, or_false, false_and, and_false]
  omega
theorem set_good {l : List Pr} {i : Nat} {p : Pr} (h : ∀ x ∈ l, strP x = true) (hp : strP p = true) : ∀ x ∈ l.set i p, strP x = true := fun x hx => by
  rcases List.mem_or_eq_of_mem_set hx with h1 | h1
  · exact h x h1
  · exact h1 ▸ hp
theorem shapedNil : SeqAt.shaped (.list []) = true := shapedPs []
theorem eqvNil (ps : List Pr) : PyData.eqv (.list (ps.map prD)) (.list []) = decide (ps = []) := eqvPs ps []
end Spk
namespace Spk
open PySem PySem.Spec PyProof.Rows L2
theorem ixN_nat {n j : Nat} {i : Int} (e : i = (j : Int)) (h : j < n) : ixN n i = some j := by
  subst e
  unfold ixN
  rw [if_pos (Int.natCast_nonneg j), if_pos (Int.ofNat_lt.mpr h)]
  simp
theorem ixN_last {n : Nat} (h : 0 < n) : ixN n (-1) = some (n - 1) := by
  unfold ixN
  rw [if_neg (by decide), if_pos (by omega)]
  congr 1
  omega
theorem at_last {ts : List Addr} {t : Addr} (h : ts[ts.length - 1]? = some t) : atI (ts.map V.ref) (-1) = some (.ref t) := by
  have hl : ts.length - 1 < ts.length := (List.getElem?_eq_some_iff.mp h).1
  unfold atI
  rw [ixN_last (by rw [List.length_map]; omega)]
  show (ts.map V.ref)[(ts.map V.ref).length - 1]? = some (.ref t)
  rw [List.length_map, List.getElem?_map, h]; rfl
theorem at_ref {ts : List Addr} {t : Addr} {j : Nat} {i : Int} (e : i = (j : Int)) (h : ts[j]? = some t) : atI (ts.map V.ref) i = some (.ref t) :=
  at_of e (by rw [List.getElem?_map, h]; rfl)
theorem refs_set {ts : List Addr} {j : Nat} {t : Addr} : (ts.map V.ref).set j (.ref t) = (ts.set j t).map V.ref := by
  rw [List.map_set]
end Spk
namespace Spk
open PySem PySem.Spec PyProof.Rows L2
theorem reprB (b : Bool) : (PyData.bool b).showable = true ∧ (PyData.bool b).hasDict = false ∧ (PyData.bool b).depth ≤ 64 ∧ (PyData.bool b).shown.length ≤ sizeLine := by
  cases b <;> decide +kernel
theorem reprBB (b : Bool) : (PyData.list [.bool b, .bool b]).showable = true ∧ (PyData.list [.bool b, .bool b]).hasDict = false ∧ (PyData.list [.bool b, .bool b]).depth ≤ 64 ∧ (PyData.list [.bool b, .bool b]).shown.length ≤ sizeLine := by
  cases b <;> decide +kernel
theorem mode_of {j : Nat} {x : V} (h : ([.str "half", .str "shut"] : List V)[j]? = some x) : ∃ z, x = endsV z := by
  match j, h with
  | 0, h => exact ⟨false, (Option.some.inj h).symm⟩
  | 1, h => exact ⟨true, (Option.some.inj h).symm⟩
theorem pd_nil {H : Hp} {us : List Addr} (h : Pd H us []) : us = [] := by
  cases us with
  | nil => rfl
  | cons _ _ => exact h.elim
/-- behind a bag and what is drawn with it all that was tracked ahead is as it was -/
theorem bag_same {p : Addr} {H H1 H2 : Hp} (np : H p = none) (a : But p H H1) (b : Kp p H1 H2) : Same H H2 := fun c o h =>
  b c o (ne_of_none h np) ((a c (ne_of_none h np)).trans h)
theorem union_eqv {z : Bool} {ps : List Pr} (h : ∀ p ∈ ps, strP p = true) : PyData.eqv (.list ((unionM z ps).map prD)) (.list (ps.map prD)) = oneF z ps := by
  rw [eqvPs, Bool.eq_iff_iff, decide_eq_true_eq]
  exact union_fix fun p hp => strP_le (h p hp)
end Spk
namespace Spk
open PySem PySem.Spec PyProof.Rows L2
theorem cut_to {us : List Addr} {i : Int} {n : Nat} (e : i = (n : Int)) : cutV (us.map V.ref) none (some i) = (us.take n).map V.ref := by
  subst e
  unfold cutV
  rw [HT.sIx_none, HT.sIx_nat, List.drop_zero, Nat.sub_zero, List.map_take, List.length_map]
  by_cases h : n ≤ us.length
  · rw [Nat.min_eq_left h]
  · rw [Nat.min_eq_right (by omega), List.take_of_length_le (by rw [List.length_map]; omega), List.take_of_length_le (by rw [List.length_map]; omega)]
theorem cut_from {us : List Addr} {i : Int} {n : Nat} (e : i = (n : Int)) : cutV (us.map V.ref) (some i) none = (us.drop n).map V.ref := by
  subst e
  unfold cutV
  rw [HT.sIx_none, HT.sIx_nat, List.map_drop, List.length_map]
  by_cases h : n ≤ us.length
  · rw [Nat.min_eq_left h]
    exact List.take_of_length_le (by rw [List.length_drop, List.length_map]; omega)
  · rw [Nat.min_eq_right (by omega), List.drop_of_length_le (by rw [List.length_map]; omega), List.drop_of_length_le (by rw [List.length_map]; omega), List.take_nil]
theorem Pd.take {H : Hp} : ∀ {ts : List Addr} {ps : List Pr} (n : Nat), Pd H ts ps → Pd H (ts.take n) (ps.take n)
  | [], [], _, _ => by simp [Pd]
  | t :: ts, p :: ps, 0, _ => by simp [Pd]
  | t :: ts, p :: ps, n + 1, h => ⟨h.1, Pd.take n h.2⟩
  | [], _ :: _, _, h => h.elim
  | _ :: _, [], _, h => h.elim
theorem Pd.drop {H : Hp} : ∀ {ts : List Addr} {ps : List Pr} (n : Nat), Pd H ts ps → Pd H (ts.drop n) (ps.drop n)
  | [], [], _, _ => by simp [Pd]
  | t :: ts, p :: ps, 0, h => h
  | t :: ts, p :: ps, n + 1, h => Pd.drop n h.2
  | [], _ :: _, _, h => h.elim
  | _ :: _, [], _, h => h.elim
theorem bag_not_refs {H : Hp} {p s : Addr} {c : Int} {ts : List Addr} (bg : BagAt H p c) (h : H s = some (.lst (ts.map V.ref))) : s ≠ p := by
  rintro rfl
  obtain ⟨b0, b1, b2, b3, e, _⟩ := bg
  rw [e] at h
  have h := HO.lst.inj (Option.some.inj h)
  cases ts with
  | nil => cases h
  | cons t ts => exact V.noConfusion (List.cons.inj h).1
theorem bag_not_tup {H : Hp} {p t : Addr} {c : Int} {xs : List V} (bg : BagAt H p c) (h : H t = some (.tup xs)) : t ≠ p := by
  rintro rfl
  obtain ⟨b0, b1, b2, b3, e, _⟩ := bg
  rw [e] at h; cases h
theorem bag_kp {H H' : Hp} {p q : Addr} {c : Int} (bg : BagAt H p c) (k : Kp q H H') (n : p ≠ q) : BagAt H' p c := by
  obtain ⟨b0, b1, b2, b3, e, r⟩ := bg
  exact ⟨b0, b1, b2, b3, k _ _ n e, r⟩
end Spk
namespace Spk
open PySem PySem.Spec PyProof.Rows L2
theorem strP_cutR {b : Pr} {c : Int} (h : strP b = true) (h1 : b.1 ≤ c) (h2 : c ≤ b.2) (h3 : -1000000000000000000000000000000 ≤ c) (h4 : c ≤ 1000000000000000000000000000000) : strP (c, b.2) = true := by
  unfold strP edgeI at *
  simp only [Bool.and_eq_true, Bool.or_eq_true, decide_eq_true_eq] at *
  omega
theorem strP_cutL {b : Pr} {c : Int} (h : strP b = true) (h1 : b.1 ≤ c) (h2 : c ≤ b.2) (h3 : -1000000000000000000000000000000 ≤ c) (h4 : c ≤ 1000000000000000000000000000000) : strP (b.1, c) = true := by
  unfold strP edgeI at *
  simp only [Bool.and_eq_true, Bool.or_eq_true, decide_eq_true_eq] at *
  omega
end Spk
namespace Spk
open PySem PySem.Spec PyProof.Rows L2
theorem strP_ext {c p : Pr} (h : strP c = true) (k : strP p = true) (e : c.2 < p.2) : strP (c.1, p.2) = true := by
  unfold strP edgeI at *
  simp only [Bool.and_eq_true, Bool.or_eq_true, decide_eq_true_eq] at *
  omega
end Spk

namespace Spk
open PySem PySem.Spec PyProof.Rows L2
/-! ### the draws of the later laws -/
def BagN (H : Hp) (p : Addr) : Prop := ∃ b0 b1 : Int, H p = some (.lst [.int b0, .int b1]) ∧ 0 ≤ b0 ∧ 0 ≤ b1 ∧ b1 < 2147483629
theorem BagN.same {H H' : Hp} {p : Addr} (h : BagN H p) (e : Same H H') : BagN H' p := by
  obtain ⟨b0, b1, h0, h1⟩ := h
  exact ⟨b0, b1, e _ _ h0, h1⟩
theorem BagN.kp {H H' : Hp} {p q : Addr} (h : BagN H p) (k : Kp q H H') (n : p ≠ q) : BagN H' p := by
  obtain ⟨b0, b1, h0, h1⟩ := h
  exact ⟨b0, b1, k _ _ n h0, h1⟩
theorem bagN_ne {H : Hp} {p q : Addr} {o : HO} (h : BagN H p) (e : H q = some o) (n : ∀ b0 b1 : Int, o ≠ .lst [.int b0, .int b1]) : q ≠ p := by
  rintro rfl
  obtain ⟨b0, b1, h0, _⟩ := h
  rw [h0] at e
  exact n b0 b1 (Option.some.inj e).symm
theorem bagN_tup {H : Hp} {p t : Addr} {xs : List V} (h : BagN H p) (e : H t = some (.tup xs)) : t ≠ p := bagN_ne h e fun _ _ z => nomatch z
theorem bagN_refs {H : Hp} {p s : Addr} {ts : List Addr} (bg : BagN H p) (h : H s = some (.lst (ts.map V.ref))) : s ≠ p := bagN_ne bg h fun b0 b1 z => by
  have z := HO.lst.inj z
  cases ts with
  | nil => cases z
  | cons t ts => exact V.noConfusion (List.cons.inj z).1
theorem bagN_none {H : Hp} {p q : Addr} (h : BagN H p) (e : H q = none) : q ≠ p := by
  rintro rfl
  obtain ⟨b0, b1, h0, _⟩ := h
  rw [h0] at e; cases e
theorem BagN.ne_tup {H : Hp} {p : Addr} (h : BagN H p) : ∀ xs, H p ≠ some (.tup xs) := fun xs e => by
  obtain ⟨b0, b1, h0, _⟩ := h
  rw [h0] at e; cases e
/-! ### windows, terms -/
def winP (w : Pr) : Bool := edgeI w.1 && edgeI w.2 && decide (w.1 < w.2)
theorem winP_of {a b : Int} (ha : (-1000000000000000000000000000000 ≤ a ∧ a ≤ 1000000000000000000000000000000) ∨ a = -10000000000000000000000000000000)
    (hb : (-1000000000000000000000000000000 ≤ b ∧ b ≤ 1000000000000000000000000000000) ∨ b = 10000000000000000000000000000000) (h : a < b) : winP (a, b) = true := by
  unfold winP edgeI
  simp only [Bool.and_eq_true, Bool.or_eq_true, decide_eq_true_eq]
  omega
theorem winP_lt {w : Pr} (h : winP w = true) : w.1 < w.2 := by
  unfold winP at h
  simp only [Bool.and_eq_true, decide_eq_true_eq] at h
  exact h.2
theorem winP_pair {w : Pr} (h : winP w = true) : isPair (prD w) = true := by
  unfold winP at h
  rw [Bool.and_eq_true] at h
  exact h.1
theorem strP_first' {p : Pr} (h : strP p = true) : -10000000000000000000000000000000 < p.2 := by
  unfold strP at h
  simp only [Bool.and_eq_true, decide_eq_true_eq] at h
  exact h.2.2.2
def termV (t : Nat) : V := if t = 0 then .str "busy" else if t = 1 then .str "covered" else .str "clash"
theorem term_scal (t : Nat) (x : Str) : scal (termV t) (.str x) = true := by
  unfold termV
  split
  · rfl
  · split <;> rfl
theorem term_0 (t : Nat) : decide (termV t = .str "busy") = decide (t = 0) := by
  unfold termV
  split
  · rename_i h; subst h; decide +kernel
  · rename_i h
    rw [decide_eq_false h]
    split <;> decide +kernel
theorem term_1 (t : Nat) : decide (termV t = .str "covered") = decide (t = 1) := by
  unfold termV
  split
  · rename_i h; subst h; decide +kernel
  · split
    · rename_i h; subst h; decide +kernel
    · rename_i h
      rw [decide_eq_false h]
      decide +kernel
theorem mem_term {j : Nat} {x : V} (h : ([.str "busy", .str "covered", .str "clash"] : List V)[j]? = some x) : x = termV j ∧ j < 3 := by
  match j, h with
  | 0, h => exact ⟨(Option.some.inj h).symm, by decide⟩
  | 1, h => exact ⟨(Option.some.inj h).symm, by decide⟩
  | 2, h => exact ⟨(Option.some.inj h).symm, by decide⟩
theorem srt_len {ps : List Pr} : (srt ps).length = ps.length := (srt_perm ps).length_eq
theorem mxE (m n : Int) : (if n > m then n else m) = mx m n := rfl
theorem mnE (m n : Int) : (if n < m then n else m) = mn m n := rfl
/-! ### an Answer -/
/-- the tuple of the module that holds the words -/
structure WordsT (K : PySem.W.Frag) (mg : Str → Option Value) (x : Str) (xs : List V) : Prop where
  ex : ∃ A : Addr, mg x = some (.ref A) ∧ ∀ H, SqT K H A xs
theorem pe_words' {X : Cx} {x : Str} {xs : List V} {pos : Pos} (h : WordsT X.K X.mg x xs) (hg : Gl X x) (hd : (x == ("__debug__" : Str)) = false := by decide) : PE X (.Name x pos) (fun _ H Q => ∀ A, SqT X.K H A xs → Q (.ref A) H) := by
  obtain ⟨A, hm, hs⟩ := h.ex
  have q := pe_glob (v := .ref A) (pos := pos) hg hm rfl hd
  exact ⟨fun pins s σ H R I z => q.run pins s σ H R I (z A (hs H))⟩
/-- a def with keyword-only defaults alone -/
theorem okDK {P : Program} {w : World} {K : PySem.W.Frag} {mg : Str → Option Value} {bh : Heap} {x qu : Str} {st : Stmt} {kws : List (Str × V)} {f : Addr} {fd : FuncData} {N ps : List Str} {k : Nat} {sp : Sp}
    (F : FunD K x qu (defArgs st) (defBody st) (defScope st) [] kws f fd) (S : FnScope N ps (defScope st)) (ln : ∀ vs H Q E, sp vs H Q E → vs.length = ps.length)
    (hb : ∀ (cv : Value) (B : Around) (ou : List Env) (t : Shared) (J : Hp) (ws : List V) (R : VK) (U : XK), Room k (B.deeper (envOfC qu (defScope st) t.heap.objs.size f cv)) → sp ws J R U →
      ∃ tr, PSs (cxOf CX0 P w K mg bh N qu (defScope st) f cv B ou t J U).nox (defBody st) tr ∧ tr { nx := fun _ J' => R .non J', rt := R } (L2.start N ws) J) :
    FnOk P w K mg bh CX0 (k + 1) f fd ps sp := F.ok S ln fun cv B ou t J ws R U rm h => by
  obtain ⟨tr, q, z⟩ := hb cv B ou t J ws R U rm h
  exact ⟨tr, q.nox, z⟩
/-- a method, a property, a class ready to be used -/
structure RdyMt (P : Program) (w : World) (K : PySem.W.Frag) (mg : Str → Option Value) (bh : Heap) (C : Addr) (m : Str) (k : Nat) (ps : List Str) (dvs : List V) (sp : Sp) (f : Addr) (fd : FuncData) : Prop where
  ok : FnOk P w K mg bh CX0 k f fd ps sp
  mt : Meth K C m f
  bd : Binds K fd ps []
  bd1 : ∃ ds, Vals dvs ds ∧ Binds K fd ps ds
structure RdyPr (P : Program) (w : World) (K : PySem.W.Frag) (mg : Str → Option Value) (bh : Heap) (C : Addr) (m : Str) (k : Nat) (sp : Sp) (p f : Addr) (fd : FuncData) : Prop where
  ok : FnOk P w K mg bh CX0 k f fd ["self"] sp
  pr : PropOf K C m p f
  bd : Binds K fd ["self"] []
structure RdyMk (P : Program) (w : World) (K : PySem.W.Frag) (mg : Str → Option Value) (bh : Heap) (x : Str) (C : Addr) (k : Nat) (ps : List Str) (dvs : List V) (sp : Sp) (f : Addr) (fd : FuncData) : Prop where
  ok : FnOk P w K mg bh CX0 k f fd ps sp
  mkr : Mk K C f
  gl : mg x = some (.ref C)
  bd1 : ∃ ds, Vals dvs ds ∧ Binds K fd ps ds
  kb : ∃ g, KBn K fd ps 2 ["ends"] g (fun vs zs => vs ++ zs)
structure AnsC (K : PySem.W.Frag) (C : Addr) : Prop where
  cl : Cls K C
  nW : NoAttr K C "what"
  nE : NoAttr K C "ends"
def ansFs (t : Nat) (z : Bool) : List (Str × V) := [(("what" : Str), termV t), (("ends" : Str), endsV z)]
def IsAns (H : Hp) (a C : Addr) (t : Nat) (z : Bool) : Prop := ∃ dx : Addr, H a = some (.ins C dx (ansFs t z))
theorem IsAns.same {H H' : Hp} {a C : Addr} {t : Nat} {z : Bool} (h : IsAns H a C t z) (s : Same H H') : IsAns H' a C t z := by
  obtain ⟨dx, h1⟩ := h
  exact ⟨dx, s _ _ h1⟩
theorem ans_what (t : Nat) (z : Bool) : List.lookup ("what" : Str) (ansFs t z) = some (termV t) := by simp [ansFs, List.lookup]
theorem ans_ends (t : Nat) (z : Bool) : List.lookup ("ends" : Str) (ansFs t z) = some (endsV z) := by
  have : (("ends" : Str) == ("what" : Str)) = false := by decide +kernel
  simp [ansFs, List.lookup, this]
theorem ans_no {f : Str} (t : Nat) (z : Bool) (h1 : (f == ("what" : Str)) = false) (h2 : (f == ("ends" : Str)) = false) : List.lookup f (ansFs t z) = none := by simp [ansFs, List.lookup, h1, h2]
theorem ans_put (t : Nat) (z : Bool) : putF "ends" (endsV z) (putF "what" (termV t) []) = ansFs t z := by
  have : ¬ (("what" : Str) = ("ends" : Str)) := by decide +kernel
  simp [putF, ansFs, this]
theorem Pd.rev {H : Hp} : ∀ {ts : List Addr} {ps : List Pr}, Pd H ts ps → Pd H ts.reverse ps.reverse
  | [], [], _ => trivial
  | t :: ts, r :: ps, h => by
    rw [List.reverse_cons, List.reverse_cons]
    exact (Pd.rev h.2).app ⟨h.1, trivial⟩
  | [], _ :: _, h => h.elim
  | _ :: _, [], h => h.elim
end Spk
namespace Spk
open PySem PySem.Spec PyProof.Rows L2
theorem cut_int {ns : List Int} {lo hi : Option Int} {i : Nat} {x : V} (h : (cutV (ns.map V.int) lo hi)[i]? = some x) : ∃ n, x = .int n := by
  have := List.mem_of_getElem? h
  unfold cutV at this
  have := List.mem_of_mem_drop (List.mem_of_mem_take this)
  obtain ⟨n, _, e⟩ := List.mem_map.mp this
  exact ⟨n, e.symm⟩
theorem cut_len {xs : List V} {lo hi : Option Int} : (cutV xs lo hi).length ≤ xs.length := cutV_length xs lo hi
end Spk
namespace Spk
open PySem PySem.Spec PyProof.Rows L2
/-- o.f, the written part named (within a comprehension) -/
theorem pe_fldK {X : Cx} {K : PySem.W.Frag} {e : Expr} {ta : TE} {f : Str} {pos : Pos} (ho : PE X e ta) (hb : attributeBase e f X.env (eval e X.env) = eval e X.env := by rfl) (h : X.K = K := by rfl) : PE X (.Attribute e f pos) (tFld K ta f) := h ▸ pe_fld ho hb
end Spk

namespace Spk
open PySem PySem.Spec PyProof.Rows L2
/-- but for what stands at p and q all that was tracked is as it was -/
def Ks (p q : Addr) (H H' : Hp) : Prop := ∀ b o, b ≠ p → b ≠ q → H b = some o → H' b = some o
theorem Ks.refl {p q : Addr} {H : Hp} : Ks p q H H := fun _ _ _ _ h => h
theorem Ks.trans {p q : Addr} {H H1 H2 : Hp} (a : Ks p q H H1) (b : Ks p q H1 H2) : Ks p q H H2 := fun c o n m h => b c o n m (a c o n m h)
theorem Ks.same {p q : Addr} {H H' : Hp} (s : Same H H') : Ks p q H H' := fun c o _ _ h => s c o h
theorem Ks.kp {p q : Addr} {H H' : Hp} (s : Kp p H H') : Ks p q H H' := fun c o n _ h => s c o n h
theorem Ks.kq {p q : Addr} {H H' : Hp} (s : Kp q H H') : Ks p q H H' := fun c o _ n h => s c o n h
end Spk
namespace Spk
open PySem PySem.Spec PyProof.Rows L2
theorem pcS_take {l : List Pr} {p o : Pr} {k : Nat} (h : l[k]? = some o) : (l.take (k + 1)).foldl pcS ([], p) = pcS ((l.take k).foldl pcS ([], p)) o := by
  rw [take_more h, List.foldl_append]; rfl
theorem pcS_len (l : List Pr) (p : Pr) (s : List Pr) : (l.foldl pcS (s, p)).1.length ≤ s.length + l.length := by
  rw [pcS_go]
  have := (pcGo_sub l p).length_le
  simp only [List.length_append]
  omega
theorem pcStep_pos {z : Bool} {f : List Pr} {p : Pr} (h : (z || decide (p.1 < p.2)) = true) : pcStep z f p = srt ((f.foldl pcS ([], p)).1 ++ [(f.foldl pcS ([], p)).2]) := by
  unfold pcStep
  rw [if_pos h, pcS_go]
  rfl
theorem pcStep_neg {z : Bool} {f : List Pr} {p : Pr} (h : ¬ (z || decide (p.1 < p.2)) = true) : pcStep z f p = f := by
  unfold pcStep
  rw [if_neg h]
theorem step_take {z : Bool} {ps : List Pr} {p : Pr} {i : Nat} (h : ps[i]? = some p) : (ps.take (i + 1)).foldl (pcStep z) [] = pcStep z ((ps.take i).foldl (pcStep z) []) p := by
  rw [take_more h, List.foldl_append]; rfl
end Spk
namespace Spk
/-- or, the way of yes told once -/
theorem or_mid {c1 c2 : Bool} {A C : Prop} (h : (c1 || c2) = true → A) (k : c1 = false → (c2 = true → A) → C) : if c1 = true then A else C := by
  cases c1 with
  | true => rw [if_pos rfl]; exact h rfl
  | false => rw [if_neg Bool.false_ne_true]; exact k rfl fun e => h (by rw [e]; rfl)
end Spk
namespace Spk
open PySem PySem.Spec PyProof.Rows L2
/-- one turn of a comprehension of truths over pairs -/
theorem bl_step {f : Pr → Bool} {L : List Pr} {i : Nat} {p : Pr} {H1 H4 : Hp} {D : Addr} (hp : L[i]? = some p) (nD : H1 D = none) (hl : L.length ≤ 2000) (ss : Same H1 H4) (hD : H4 D = some (.lst (((L.take i).map f).map V.bl))) {b : Bool} (e : f p = b) :
    ∃ acc, H4 D = some (.lst acc) ∧ acc.length < sizeLine ∧ Same H1 (upd H4 D (.lst (acc ++ [.bl b]))) ∧ upd H4 D (.lst (acc ++ [.bl b])) D = some (.lst (((L.take (i + 1)).map f).map V.bl)) := by
  have hk : (L.take i).length ≤ L.length := List.length_take_le' ..
  refine ⟨_, hD, ?_, fun c o hb => ?_, ?_⟩
  · rw [List.length_map, List.length_map]
    have : (2000 : Nat) < sizeLine := by decide
    omega
  · rw [upd_ne (ne_of_none hb nD)]
    exact ss _ _ hb
  · rw [upd_same, take_more hp, List.map_append, List.map_append, ← e]
    rfl
theorem any_bl {f : Pr → Bool} {L : List Pr} : (L.map f).any id = L.any f := by
  rw [List.any_map]; rfl
end Spk
namespace Spk
open PySem PySem.Spec PyProof.Rows L2
theorem same_kp {p : Addr} {H H1 H2 : Hp} (np : H p = none) (a : Same H H1) (b : Kp p H1 H2) : Same H H2 := fun c o h => b c o (ne_of_none h np) (a c o h)
/-- what was made behind, at L, may be changed -/
theorem kp_ks {p L : Addr} {H H1 H2 : Hp} (k : Kp p H H1) (nL : H1 L = none) (neL : L ≠ p) (b : Ks p L H1 H2) : Kp p H H2 := fun c o n h =>
  b c o n (fun z => by subst z; rw [k _ _ n h] at nL; cases nL) (k c o n h)
theorem ks_new {p L : Addr} {H H1 : Hp} {o : HO} (nL : H L = none) (b : Ks p L (upd H L o) H1) (neL : L ≠ p) : Kp p H H1 := fun c u n h =>
  b c u n (ne_of_none h nL) (by rw [upd_ne (ne_of_none h nL)]; exact h)
theorem take_good {ps : List Pr} {n : Nat} (h : ∀ x ∈ ps, strP x = true) : ∀ x ∈ ps.take n, strP x = true := fun x hx => h x (List.mem_of_mem_take hx)
theorem drop_good {ps : List Pr} {n : Nat} (h : ∀ x ∈ ps, strP x = true) : ∀ x ∈ ps.drop n, strP x = true := fun x hx => h x (List.mem_of_mem_drop hx)
theorem eqv_self (ps : List Pr) : (!PyData.eqv (.list (ps.map prD)) (.list (ps.map prD))) = false := by rw [eqvPs, decide_eq_true rfl]; rfl
end Spk
namespace Spk
open PySem PySem.Spec PyProof.Rows L2
theorem iteFe {c : Bool} {A B : Prop} (h : c = false) (b : B) : if c = true then A else B := by
  rw [h, if_neg Bool.false_ne_true]; exact b
theorem in_bools (d : Bool) : inV (.bl d) [.bl true, .bl false] = true := by cases d <;> decide +kernel
theorem same_make {o dx C : Addr} {H H' : Hp} (no : H o = none) (nd : H dx = none) (k : Kp o (upd (upd H dx (.own o)) o (.ins C dx [])) H') : Same H H' := fun b u e =>
  k b u (ne_of_none e no) (by rw [upd_ne (ne_of_none e no), upd_ne (ne_of_none e nd)]; exact e)
theorem no_wished (t : Nat) (z : Bool) : List.lookup ("wished" : Str) (ansFs t z) = none := ans_no t z (by decide +kernel) (by decide +kernel)
end Spk

namespace Spk
open PySem PySem.Spec PyProof.Rows L2
/-- a shorter reading of an expression -/
theorem pe_imp {X : Cx} {e : Expr} {t t' : TE} (h : PE X e t) (i : ∀ σ H Q, t' σ H Q → t σ H Q) : PE X e t' := ⟨fun pins s σ H Q I z => h.run pins s σ H Q I (i σ H Q z)⟩
/-! ### what the wishes for numbers count -/
def hldB (z : Bool) (p : Pr) (i : Int) : Bool := decide (p.1 ≤ i) && (if z then decide (i ≤ p.2) else decide (i < p.2))
/-- t: 0 all, 1 full, 2 left, 3 within, 4 touched, 5 pieces -/
def cntB (t : Nat) (z : Bool) (w p : Pr) : Bool := if t = 1 then !emp z p else if t = 2 then hldB z p w.1 else if t = 3 then (decide (w.1 ≤ p.1) && decide (p.2 ≤ w.2)) else if t = 4 then meetB z p w else true
def numB (t : Nat) (z : Bool) (ps : List Pr) (w : Pr) : Int := if t = 5 then ((unionM z ps).length : Int) else ((ps.filter (cntB t z w)).length : Int)
def numS (t : Nat) : Str := if t = 0 then "all" else if t = 1 then "full" else if t = 2 then "left" else if t = 3 then "within" else if t = 4 then "touched" else "pieces"
def numV (t : Nat) : V := .str (numS t)
theorem six {P : Nat → Prop} {t : Nat} (h : t < 6) (h0 : P 0) (h1 : P 1) (h2 : P 2) (h3 : P 3) (h4 : P 4) (h5 : P 5) : P t := by
  have : t = 0 ∨ t = 1 ∨ t = 2 ∨ t = 3 ∨ t = 4 ∨ t = 5 := by omega
  rcases this with rfl | rfl | rfl | rfl | rfl | rfl <;> assumption
theorem num_full {t : Nat} (h : t < 6) : decide (numV t = .str "full") = decide (t = 1) := six (P := fun t => decide (numV t = .str "full") = decide (t = 1)) h (by decide +kernel) (by decide +kernel) (by decide +kernel) (by decide +kernel) (by decide +kernel) (by decide +kernel)
theorem num_left {t : Nat} (h : t < 6) : decide (numV t = .str "left") = decide (t = 2) := six (P := fun t => decide (numV t = .str "left") = decide (t = 2)) h (by decide +kernel) (by decide +kernel) (by decide +kernel) (by decide +kernel) (by decide +kernel) (by decide +kernel)
theorem num_within {t : Nat} (h : t < 6) : decide (numV t = .str "within") = decide (t = 3) := six (P := fun t => decide (numV t = .str "within") = decide (t = 3)) h (by decide +kernel) (by decide +kernel) (by decide +kernel) (by decide +kernel) (by decide +kernel) (by decide +kernel)
theorem num_touched {t : Nat} (h : t < 6) : decide (numV t = .str "touched") = decide (t = 4) := six (P := fun t => decide (numV t = .str "touched") = decide (t = 4)) h (by decide +kernel) (by decide +kernel) (by decide +kernel) (by decide +kernel) (by decide +kernel) (by decide +kernel)
theorem num_pieces {t : Nat} (h : t < 6) : decide (numV t = .str "pieces") = decide (t = 5) := six (P := fun t => decide (numV t = .str "pieces") = decide (t = 5)) h (by decide +kernel) (by decide +kernel) (by decide +kernel) (by decide +kernel) (by decide +kernel) (by decide +kernel)
theorem num_mem {t : Nat} (h : t < 6) : inV (numV t) [.str "all", .str "full", .str "left", .str "within", .str "touched", .str "pieces"] = true := six (P := fun t => inV (numV t) [.str "all", .str "full", .str "left", .str "within", .str "touched", .str "pieces"] = true) h (by decide +kernel) (by decide +kernel) (by decide +kernel) (by decide +kernel) (by decide +kernel) (by decide +kernel)
theorem num_uses {t : Nat} (h : t < 6) : inV (numV t) [.str "left", .str "within", .str "touched"] = (decide (2 ≤ t) && decide (t ≤ 4)) := six (P := fun t => inV (numV t) [.str "left", .str "within", .str "touched"] = (decide (2 ≤ t) && decide (t ≤ 4))) h (by decide +kernel) (by decide +kernel) (by decide +kernel) (by decide +kernel) (by decide +kernel) (by decide +kernel)
theorem num_free {t : Nat} (h : t < 6) : inV (numV t) [.str "all", .str "full", .str "pieces"] = (decide (t ≤ 1) || decide (t = 5)) := six (P := fun t => inV (numV t) [.str "all", .str "full", .str "pieces"] = (decide (t ≤ 1) || decide (t = 5))) h (by decide +kernel) (by decide +kernel) (by decide +kernel) (by decide +kernel) (by decide +kernel) (by decide +kernel)
theorem mem_num {j : Nat} {x : V} (h : ([.str "all", .str "full", .str "left", .str "within", .str "touched", .str "pieces"] : List V)[j]? = some x) : x = numV j ∧ j < 6 := by
  match j, h with
  | 0, h => exact ⟨(Option.some.inj h).symm, by decide⟩
  | 1, h => exact ⟨(Option.some.inj h).symm, by decide⟩
  | 2, h => exact ⟨(Option.some.inj h).symm, by decide⟩
  | 3, h => exact ⟨(Option.some.inj h).symm, by decide⟩
  | 4, h => exact ⟨(Option.some.inj h).symm, by decide⟩
  | 5, h => exact ⟨(Option.some.inj h).symm, by decide⟩
theorem num_rev {t : Nat} {z : Bool} {ps : List Pr} {w : Pr} : numB t z ps.reverse w = numB t z ps w := by
  unfold numB
  rw [union_rev, List.filter_reverse, List.length_reverse]
theorem num_nil {t : Nat} {z : Bool} {w : Pr} : numB t z [] w = 0 := by
  unfold numB
  split <;> rfl
theorem num_snoc {t : Nat} {z : Bool} {ps : List Pr} {x w : Pr} (h : t ≠ 5) : numB t z (ps ++ [x]) w - numB t z ps w = numB t z [x] w := by
  unfold numB
  rw [if_neg h, if_neg h, if_neg h, List.filter_append, List.length_append]
  omega
theorem num_nn {t : Nat} {z : Bool} {ps : List Pr} {w : Pr} : 0 ≤ numB t z ps w := by
  unfold numB
  split <;> omega
/-! ### a Number -/
def numFs (t : Nat) (z : Bool) : List (Str × V) := [(("what" : Str), numV t), (("ends" : Str), endsV z)]
def IsNum (H : Hp) (a C : Addr) (t : Nat) (z : Bool) : Prop := ∃ dx : Addr, H a = some (.ins C dx (numFs t z))
theorem IsNum.same {H H' : Hp} {a C : Addr} {t : Nat} {z : Bool} (h : IsNum H a C t z) (s : Same H H') : IsNum H' a C t z := by
  obtain ⟨dx, h1⟩ := h
  exact ⟨dx, s _ _ h1⟩
theorem numF_what (t : Nat) (z : Bool) : List.lookup ("what" : Str) (numFs t z) = some (numV t) := by simp [numFs, List.lookup]
theorem numF_ends (t : Nat) (z : Bool) : List.lookup ("ends" : Str) (numFs t z) = some (endsV z) := by
  have : (("ends" : Str) == ("what" : Str)) = false := by decide +kernel
  simp [numFs, List.lookup, this]
theorem numF_wished (t : Nat) (z : Bool) : List.lookup ("wished" : Str) (numFs t z) = none := by
  have h1 : (("wished" : Str) == ("what" : Str)) = false := by decide +kernel
  have h2 : (("wished" : Str) == ("ends" : Str)) = false := by decide +kernel
  simp [numFs, List.lookup, h1, h2]
theorem num_put (t : Nat) (z : Bool) : putF "ends" (endsV z) (putF "what" (numV t) []) = numFs t z := by
  have : ¬ (("what" : Str) = ("ends" : Str)) := by decide +kernel
  simp [putF, numFs, this]
/-! ### the law's expressions, read in short: slots a (the stretch), b (the window), c (the ends) -/
def tFullS (K : PySem.W.Frag) (a c : Nat) : TE := fun σ H Q => ∃ (t : Addr) (p : Pr) (z : Bool), σ[a]? = some (some (.ref t)) ∧ σ[c]? = some (some (endsV z)) ∧ SqT K H t [.int p.1, .int p.2] ∧ p.1 ≤ p.2 ∧ Q (.bl (!emp z p)) H
def tLeftS (K : PySem.W.Frag) (a b c : Nat) : TE := fun σ H Q => ∃ (t u : Addr) (p w : Pr) (z : Bool), σ[a]? = some (some (.ref t)) ∧ σ[b]? = some (some (.ref u)) ∧ σ[c]? = some (some (endsV z)) ∧ SqT K H t [.int p.1, .int p.2] ∧ SqT K H u [.int w.1, .int w.2] ∧ p.1 ≤ p.2 ∧ Q (.bl (hldB z p w.1)) H
def tWithS (K : PySem.W.Frag) (a b : Nat) : TE := fun σ H Q => ∃ (t u : Addr) (p w : Pr), σ[a]? = some (some (.ref t)) ∧ σ[b]? = some (some (.ref u)) ∧ SqT K H t [.int p.1, .int p.2] ∧ SqT K H u [.int w.1, .int w.2] ∧ Q (.bl (decide (w.1 ≤ p.1) && decide (p.2 ≤ w.2))) H
def rowsK (f : Bool) : List (Key × V) := [(Sum.inr ("all" : Str), .bl true), (Sum.inr ("full" : Str), .bl f)]
def rowsW (f l i m : Bool) : List (Key × V) := [(Sum.inr ("all" : Str), .bl true), (Sum.inr ("full" : Str), .bl f), (Sum.inr ("left" : Str), .bl l), (Sum.inr ("within" : Str), .bl i), (Sum.inr ("touched" : Str), .bl m)]
end Spk
namespace Spk
open PySem PySem.Spec PyProof.Rows L2
theorem emp_full_t {z : Bool} {p : Pr} (h : z = true) (le : p.1 ≤ p.2) : (!emp z p) = true := by
  subst h
  show (!decide (p.2 < p.1)) = true
  rw [decide_eq_false (by omega)]; rfl
theorem emp_full_f {z : Bool} {p : Pr} (h : ¬ z = true) : (!emp z p) = decide (p.1 < p.2) := by
  have : z = false := by cases z <;> simp_all
  subst this
  show (!decide (p.2 ≤ p.1)) = decide (p.1 < p.2)
  rw [Bool.eq_iff_iff]
  simp
theorem hld_in {z : Bool} {p : Pr} {i : Int} (h1 : p.1 ≤ i) (h2 : i < p.2) : hldB z p i = true := by
  unfold hldB
  cases z <;> simp <;> omega
theorem hld_out {z : Bool} {p : Pr} {i : Int} (h : ¬ p.1 ≤ i) (le : p.1 ≤ p.2) : (z && decide (V.int p.2 = V.int i)) = false ∧ hldB z p i = false := by
  have : ¬ p.2 = i := by omega
  unfold hldB
  rw [decide_eq_false h]
  exact ⟨by rw [decide_eq_false fun e => this (V.int.inj e)]; cases z <;> rfl, rfl⟩
theorem hld_end {z : Bool} {p : Pr} {i : Int} (h1 : p.1 ≤ i) (h2 : ¬ i < p.2) : hldB z p i = (z && decide (V.int p.2 = V.int i)) := by
  unfold hldB
  rw [Bool.eq_iff_iff]
  cases z <;> simp <;> omega
theorem merge_rows (f : Bool) : mergeK [] (rowsK f) = rowsK f := by cases f <;> decide +kernel
theorem put_rows (f l i m : Bool) : putK (putK (putK (rowsK f) (Sum.inr ("left" : Str)) (.bl l)) (Sum.inr ("within" : Str)) (.bl i)) (Sum.inr ("touched" : Str)) (.bl m) = rowsW f l i m := by
  cases f <;> cases l <;> cases i <;> cases m <;> decide +kernel
theorem val_rowsK {t : Nat} (h : t ≤ 1) (f : Bool) : valV (rowsK f) (Sum.inr (numS t)) = some (.bl (if t = 1 then f else true)) := by
  have : t = 0 ∨ t = 1 := by omega
  rcases this with rfl | rfl <;> cases f <;> decide +kernel
theorem val_rowsW {t : Nat} (h : t < 5) (f l i m : Bool) : valV (rowsW f l i m) (Sum.inr (numS t)) = some (.bl (if t = 1 then f else if t = 2 then l else if t = 3 then i else if t = 4 then m else true)) := by
  have : t = 0 ∨ t = 1 ∨ t = 2 ∨ t = 3 ∨ t = 4 := by omega
  rcases this with rfl | rfl | rfl | rfl | rfl <;> cases f <;> cases l <;> cases i <;> cases m <;> decide +kernel
end Spk

/-! sets of ints: made of a list, and sorted, any number of them -/
namespace Spk
open PySem PySem.Spec PyProof.Rows L2
/-- an empty set as set() makes it -/
def setOb (w : World) : Obj := { cls := .type "set", dict := none, data := .set #[] 0 (.fresh 0 0 (!w.params.followText "set-order")) }
section
variable {P : Program} {w : World} {A : Around} {E : Value → Shared → Prop} {s : Shared}
theorem setList {l : Addr} {xs : Array Value} (ns : List Int) {Q : Value → Shared → Prop} (hh : A.handled = none) (hl : s.heap.IsList l xs) (hx : IntsAre xs.toList ns) (hb : ns.length + 1 < scanBound)
    (q : ∀ (h' : Heap) (tk c : Nat), SetR w h' s.heap.objs.size (fun j => decide (j ∈ ns)) c → c ≤ ns.length → (∀ b o, s.heap.get? b = some o → h'.get? b = some o) → Q (.ref s.heap.objs.size) { s with heap := h', toks := tk }) :
    wpAny (model P w) A (call (.type "set") [.ref l]) Q E s := by
  have e0 : xs.size = ns.length := by have := IntsAre.length hx; simpa using this
  obtain ⟨_, _, m1⟩ := F.called_set.mro
  have m2 := F.called_set.made; have m3 := F.called_set.sub; have m4 := F.called_set.notType; have m5 := F.called_set.canCreate
  have m6 := F.typeCall_set_1 (.ref l)
  refine wpAny_call (codeAny_of_tree (show wpAny _ _ (callAny (.type "set") _) _ _ _ from wpAny_pure ⟨Code.quiet_builtin _ (by decide +kernel), codeAny_builtin F.entry_type_call ?_⟩))
  rw [Around.under_plain (weight_type_call_type "set" [.ref l] []) rfl]
  repeat (any_goals (first | assumption | wp_step))
  have g0 : (s.heap.push (setOb w)).get? s.heap.objs.size = some (setOb w) := Heap.get?_push_size _ rfl
  refine codeAny_mono (code_set_led1 (.ref l) (E := E) (Q₁ := fun v t => v = .ref s.heap.objs.size ∧ t = { s with heap := s.heap.push (setOb w) }) ⟨rfl, rfl⟩) fun r t hr => ?_
  match r, hr with
  | .error _, hr => exact hr
  | .ok (.ret _), ⟨e1, e2⟩ =>
    subst e1 e2
    have ty : Shared.TypeIs { s with heap := s.heap.push (setOb w) } (.ref s.heap.objs.size) "set" := ⟨_, g0, rfl⟩
    have i1 := F.called_set.init.lookup; have i2 := F.called_set.init.bind (.ref s.heap.objs.size)
    repeat (any_goals (first | assumption | wp_step))
    refine codeAny_mono (codeAny_call_builtin (R := wants (fun v t => v = .none ∧ ∃ h' tk c, t = { s with heap := h', toks := tk } ∧ SetR w h' s.heap.objs.size (fun j => decide (j ∈ ns)) c ∧ c ≤ ns.length ∧ ∀ b o, s.heap.get? b = some o → h'.get? b = some o) E)
      F.called_set.init.plain F.entry_set_init (check_set_init_1 ty ?_)) fun r2 t2 hr2 => ?_
    · obtain ⟨⟨_, dd, _, ss⟩, o1, o2, n1, o3⟩ := hl
      dsimp only at o2 o3; subst o2 o3
      have o4 : (s.heap.push (setOb w)).get? l = some { cls := .type "list", dict := dd, data := .seq xs n1, slots := ss } := Heap.get?_push_of_some _ o1
      have t1 := F.sub_list_set; have t2 := F.sub_list_frozenset
      have t3 : (Value.type "list" == Value.type "dict") = false := by decide
      have isl : (s.heap.push (setOb w)).IsList l xs := ⟨_, o4, rfl, n1, rfl⟩
      unfold Builtin.«set.__init__» noKeywords Builtin.Frozenset.updateFrom
      generalize hp : pyIter = pI
      wp_walk
      subst hp
      refine wpAny_pyIter_list isl (wpAny_bind (wpAny_runValue ?_))
      have ll : l < s.heap.objs.size := Heap.lt_size o1
      have sz : (s.heap.push (setOb w)).objs.size = s.heap.objs.size + 1 := Heap.size_push ..
      have h3 : A.in1.in1.in1.handled = none := by simp [hh]
      have nI : l ≠ (s.heap.push (setOb w)).objs.size := by rw [sz]; exact Nat.ne_of_lt (Nat.lt_succ_of_lt ll)
      have nS : s.heap.objs.size ∉ [(s.heap.push (setOb w)).objs.size, l] := fun z => by
        rw [sz] at z
        rcases List.mem_cons.mp z with e | e
        · exact Nat.ne_of_lt (Nat.lt_succ_self _) e
        · exact Nat.ne_of_gt ll (List.mem_singleton.mp e)
      have val : ∀ (i : Nat) (v : Value), xs[i]? = some v → ∃ k t, ns[i]? = some k ∧ v = .int k t := by
        intro i v hv
        have hi : i < ns.length := e0 ▸ (Array.getElem?_eq_some_iff.mp hv).1
        obtain ⟨t, e⟩ := IntsAre.int_at hx i v ((Array.getElem?_toList ..).trans hv)
        exact ⟨ns[i], t, List.getElem?_eq_getElem hi, by rw [e, List.getD_eq_getElem?_getD, List.getElem?_eq_getElem hi]; rfl⟩
      refine set_update_ints (Walks.list h3 _ l nI xs).toS s.heap.objs.size nS ns e0 hb val (xs.size - 0) 0 _ rfl (Nat.zero_le _) ⟨⟨_, Heap.get?_push_size _ rfl, rfl, rfl⟩, isl.push _⟩
        ⟨0, Nat.le_refl 0, setR_new_at (Heap.get?_push_of_some _ g0)⟩ ?_
      rintro ⟨h', _, _, tk', _⟩ c' mv lc sr
      obtain ⟨eg, ed, eo⟩ := And.intro mv.gens (And.intro mv.drawn mv.os)
      dsimp only at eg ed eo; subst eg ed eo
      refine (show wpAny _ _ _ _ _ _ from wpAny_pure (show wpAny _ _ (ret Value.none) _ _ _ from wpAny_pure ⟨rfl, h', tk', c', rfl, sr, e0 ▸ lc, fun b o e => ?_⟩))
      have hb0 : b < s.heap.objs.size := Heap.lt_size e
      refine mv.heap b o (fun z => ?_) (Heap.get?_push_of_some _ (Heap.get?_push_of_some _ e))
      rw [sz] at z
      rcases List.mem_cons.mp z with z | z
      · exact Nat.ne_of_lt hb0 z
      · exact Nat.ne_of_lt (Nat.lt_succ_of_lt hb0) (List.mem_singleton.mp z)
    · match r2, hr2 with
      | .error _, hr2 => exact hr2
      | .ok (.ret _), ⟨e3, h', tk, c, e4, sr, lc, kp⟩ =>
        subst e3 e4
        repeat (any_goals (first | assumption | wp_step))
        exact q _ _ _ sr lc kp
theorem sortedSet {a : Addr} {S : Int → Bool} {n : Nat} {Q : Value → Shared → Prop} (R : SetR w s.heap a S n) (hh : A.handled = none)
    (q : ∀ t p (out : Array Value) (c : Nat) (ns : List Int), (∀ b o, s.heap.get? b = some o → t.heap.get? b = some o) → t.gens = s.gens → t.os = s.os → s.heap.objs.size ≤ p → t.heap.get? p = some (seqObj "list" out c) →
      IntsAre out.toList ns → ns.Pairwise (· < ·) → (∀ k, k ∈ ns ↔ S k = true) → ns.length ≤ sizeLine → Q (.ref p) t) :
    wpAny (model P w) A (call (.builtin "sorted") [.ref a]) Q E s := by
  obtain ⟨o, es, ep, t, ho, ex, hd, gd, nd, mem, sb, fit, rfl, ris, led⟩ := R
  refine Calls.call_function_entry kind_sorted plain_sorted entry_sorted (args_sorted1 _) ?_
  unfold Builtin.«sorted»
  refine wpAny_bind (m := checkCount "sorted" 1 1 _) (wpAny_pure (wpAny_bind (collect_set (A := A.in1) hh ⟨o, ho, ex.1, hd⟩ fit sb ris led fun s1 vs k1 z1 g1 o1 pm => ?_)))
  have lv : vs.length = es.size := by rw [pm.length_eq]; simp
  have zv : vs.length ≤ sizeLine := by rw [lv, sizeLine_eq]; unfold scanBound at sb; omega
  have vi : IntsAre vs (vs.map Builtin.Re.reRawOf) := ints_of vs fun v hv => by
    obtain ⟨e, he, rfl⟩ := List.mem_map.mp (pm.mem_iff.mp hv)
    obtain ⟨k, tk, h1, _⟩ := gd e he
    exact ⟨k, tk, h1⟩
  have pk : (vs.map Builtin.Re.reRawOf).Perm (es.toList.map keyOf) := by
    have := pm.map Builtin.Re.reRawOf
    rwa [List.map_map] at this
  refine wpAny_bind (wpAny_newList ?_ zv)
  have hL : (s1.heap.push (seqObj "list" vs.toArray 0)).get? s1.heap.objs.size = some (seqObj "list" vs.toArray 0) := Heap.get?_push_size _ rfl
  refine wpAny_bind (wpAny_holding (wpAny_call_entry slot_list_sort ⟨_, hL, rfl⟩ entry_list_sort (SrtO.list_sort_ord SrtO.swo_int hL zv (fun h2 => SrtO.ints_sortable vi h2) fun out h1 h2 => ⟨_, rfl, ?_⟩) (args_list_sort _)))
  obtain ⟨w1, w2, w3⟩ := SrtO.ints_out vi h1 h2
  obtain ⟨c, hc⟩ := sortedHeap_at (vs := vs) (out := out.toArray) hL
  have pn := w2.trans pk
  refine wpAny_pure ⟨_, rfl, q _ s1.heap.objs.size out.toArray c (out.map SrtO.iv) (fun b u e => ?_) g1 o1 z1 hc w1 (lt_of_le_nodup _ w3 (pn.nodup_iff.mpr nd)) (fun k => by rw [pn.mem_iff, ← mem k]) (by rw [w2.length_eq, List.length_map]; exact zv)⟩
  have e1 := k1 b u e
  have lt := Heap.lt_size e1
  show (sortedHeap _ _ _ _).get? b = some u
  rw [sortedHeap_old (Nat.ne_of_lt lt) (by rw [size_push']; exact Nat.lt_succ_of_lt lt)]
  exact Heap.get?_push_of_some _ e1
end
section
variable {X : Cx}
/-- set(xs), xs a list of ints -/
def rSetOf (K : PySem.W.Frag) (w : World) : List V → Hp → VK → Prop := fun xs H Q => ∃ (l : Addr) (ns : List Int), xs = [V.ref l] ∧ SqL K H l (ns.map V.int) ∧ ns.length ≤ 4000 ∧ ∀ a n, H a = none → Q (.ref a) (upd H a (SetO w a (fun j => decide (j ∈ ns)) n))
theorem cr_setOf (hc : X.calm = true) : CallR X (.type "set") (rSetOf X.K X.w) := by
  intro pins s σ H xs us Q I r h
  obtain ⟨l, ns, rfl, hl, hn, q⟩ := h
  rw [Vals.ref1 r]
  obtain ⟨its, rv, pl, hz⟩ := I.list hl
  have free : H s.heap.objs.size = none := I.hok.fresh (Nat.le_refl _)
  refine setList (P := X.prog) (w := X.w) ns (I.ok.hd hc) pl.isList (by simpa using rv.ints) (by unfold scanBound; omega) fun h' tk c R _ k => ?_
  exact ⟨.ref s.heap.objs.size, upd H s.heap.objs.size (SetO X.w s.heap.objs.size (fun j => decide (j ∈ ns)) c), I.laid (t' := tk) k (Nat.le_refl _) (setO_new R), rfl, q _ c free⟩
/-- sorted(set of ints), any number of members -/
def rSortSet (w : World) : List V → Hp → VK → Prop := fun vs H Q => ∃ (a : Addr) (S : Int → Bool) (n : Nat), vs = [V.ref a] ∧ H a = some (SetO w a S n) ∧
  ∀ (ns : List Int) (p : Addr), ns.Pairwise (· < ·) → (∀ k : Int, k ∈ ns ↔ S k = true) → H p = none → Q (.ref p) (upd H p (.lst (ns.map V.int)))
theorem cr_sortSet (hc : X.calm = true) : CallR X (.builtin "sorted") (rSortSet X.w) := by
  intro pins s σ H vs us Q I r h
  obtain ⟨a, S, n, rfl, ha, q⟩ := h
  have R := setO_get I ha
  rw [Vals.ref1 r]
  refine sortedSet R (I.ok.hd hc) fun t p out c ns k g o hp hg hi hs hm hz => ?_
  have free : H p = none := I.hok.fresh hp
  obtain ⟨_, _, _, _, _⟩ := t
  dsimp only at g o; subst g o
  exact ⟨.ref p, upd H p (.lst (ns.map V.int)), I.call (ch := []) (Un.laid k hp free) (I.hok.laid k hp ⟨by rw [List.length_map]; exact hz, out.toList, c, vals_of_ints hi, hg⟩) I.bare (fun _ z => nomatch z), rfl, q ns p hs hm free⟩
end
end Spk

/-! list(zip(xs, ys)) of two lists -/
namespace Spk
open PySem PySem.Spec PyProof.Rows L2
theorem zip_len0 : typeLookup (.type "zip") "__len__" = pure none := am_miss_of_fast (by decide +kernel)
theorem zip_hint0 : typeLookup (.type "zip") "__length_hint__" = pure none := am_miss_of_fast (by decide +kernel)
/-- a zip that gave i tuples, the first of them at T and still there -/
structure ZSt (h : Heap) (z TI TO i1 i2 l1 l2 : Addr) (xs ys : Array Value) (i : Nat) (last : Option Addr) : Prop where
  zz : (last = none ∧ IsZip h z TI TO .none ∧ ∃ a b, IsPair h TO a b) ∨ ∃ T f o, last = some T ∧ IsZipHeld h z TI TO T f ∧ h.get? T = some o
  tO : ∃ o, h.get? TO = some o
  ti : IsPair h TI (.ref i1) (.ref i2)
  j1 : h.IsListIter i1 l1 i
  j2 : h.IsListIter i2 l2 i
  a1 : h.IsList l1 xs
  a2 : h.IsList l2 ys
/-- what was given: the tuple at the j-th address -/
def Given (h : Heap) (xs ys : Array Value) (Ts : List Addr) : Prop := ∀ (j : Nat) (T : Addr), Ts[j]? = some T → ∃ x y, xs[j]? = some x ∧ ys[j]? = some y ∧ IsPair h T x y
section
variable {P : Program} {w : World} {A : Around} {R : Result → Shared → Prop} {z TI TO i1 i2 l1 l2 S : Addr} {xs ys : Array Value}
theorem nextZ {Q : Option Value → Shared → Prop} {E : Value → Shared → Prop} {s : Shared} {i : Nat} {last : Option Addr} (hh : A.handled = none) (D : ZipApart z TI TO i1 i2 l1 l2) (Z : ZSt s.heap z TI TO i1 i2 l1 l2 xs ys i last) (nl : ∀ T, last = some T → T ≠ z ∧ T ≠ i1 ∧ T ≠ i2)
    (q1 : ∀ h' x y, xs[i]? = some x → ys[i]? = some y → ZSt h' z TI TO i1 i2 l1 l2 xs ys (i + 1) (some (last.getD s.heap.objs.size)) → IsPair h' s.heap.objs.size x y → h'.objs.size = s.heap.objs.size + 1 → (∀ c o, c ≠ z → c ≠ TO → c ≠ i1 → c ≠ i2 → s.heap.get? c = some o → h'.get? c = some o) → Q (some (.ref s.heap.objs.size)) { s with heap := h' })
    (q2 : ∀ h', xs[i]? = none ∨ ys[i]? = none → (∀ c o, c ≠ z → c ≠ TO → c ≠ i1 → c ≠ i2 → s.heap.get? c = some o → h'.get? c = some o) → Q none { s with heap := h' }) :
    wpAny (model P w) A (pyNext (.ref z)) Q E s := by
  obtain ⟨zz, tO, ti, j1, j2, a1, a2⟩ := Z
  have l1' : ∀ {h' : Heap}, (∀ c o, c ≠ z → c ≠ TO → c ≠ i1 → c ≠ i2 → s.heap.get? c = some o → h'.get? c = some o) → h'.IsList l1 xs := fun k => a1.at fun o e => k _ o D.l1z D.l1TO D.l1i1 D.l1i2 e
  have l2' : ∀ {h' : Heap}, (∀ c o, c ≠ z → c ≠ TO → c ≠ i1 → c ≠ i2 → s.heap.get? c = some o → h'.get? c = some o) → h'.IsList l2 ys := fun k => a2.at fun o e => k _ o D.l2z D.l2TO D.l2i1 D.l2i2 e
  cases hx : xs[i]? with
  | none =>
    rcases zz with ⟨rfl, hz, a, b, ho⟩ | ⟨T, f, o, rfl, hz, hT⟩
    · exact wpAny_pyNext_zip_end hh D hz ti ho j1 j2 a1 a2 (.inl hx) fun h' k => q2 h' (.inl hx) k
    · exact wpAny_pyNext_zip_end_held hh D hz hT ti j1 j2 a1 a2 (.inl hx) fun h' k => q2 h' (.inl hx) fun c o c1 _ c3 c4 e => k c o c1 c3 c4 e
  | some x =>
    cases hy : ys[i]? with
    | none =>
      rcases zz with ⟨rfl, hz, a, b, ho⟩ | ⟨T, f, o, rfl, hz, hT⟩
      · exact wpAny_pyNext_zip_end hh D hz ti ho j1 j2 a1 a2 (.inr hy) fun h' k => q2 h' (.inr hy) k
      · exact wpAny_pyNext_zip_end_held hh D hz hT ti j1 j2 a1 a2 (.inr hy) fun h' k => q2 h' (.inr hy) fun c o c1 _ c3 c4 e => k c o c1 c3 c4 e
    | some y =>
      rcases zz with ⟨rfl, hz, a, b, ho⟩ | ⟨T, f, o, rfl, hz, hT⟩
      · exact wpAny_pyNext_zip_item D hz ti ho j1 j2 a1 a2 hx hy fun h' b1 b2 b3 b4 b5 b6 k => q1 h' x y hx hy ⟨.inr ⟨_, false, _, rfl, b1, b5⟩, ⟨_, b2⟩, k _ _ D.TIz D.TITO D.TIi1 D.TIi2 ti, b3, b4, l1' k, l2' k⟩ b5 b6 k
      · refine wpAny_pyNext_zip_item_held D hz hT ti j1 j2 a1 a2 hx hy fun h' b1 b3 b4 b5 b6 k => ?_
        have k' : ∀ c o, c ≠ z → c ≠ TO → c ≠ i1 → c ≠ i2 → s.heap.get? c = some o → h'.get? c = some o := fun c o c1 _ c3 c4 e => k c o c1 c3 c4 e
        obtain ⟨t1, t2, t3⟩ := nl T rfl
        obtain ⟨u, hu⟩ := tO
        exact q1 h' x y hx hy ⟨.inr ⟨T, true, _, rfl, b1, k _ _ t1 t2 t3 hT⟩, ⟨u, k _ _ D.TOz D.TOi1 D.TOi2 hu⟩, k _ _ D.TIz D.TIi1 D.TIi2 ti, b3, b4, l1' k', l2' k'⟩ b5 b6 k'
theorem ZSt.keep {h h' : Heap} {i : Nat} {last : Option Addr} (Z : ZSt h z TI TO i1 i2 l1 l2 xs ys i last) (hS : S ∉ [z, TI, TO, i1, i2, l1, l2]) (hl : last ≠ some S) (k : ∀ b o, b ≠ S → h.get? b = some o → h'.get? b = some o) : ZSt h' z TI TO i1 i2 l1 l2 xs ys i last := by
  obtain ⟨zz, ⟨u, hu⟩, ti, j1, j2, a1, a2⟩ := Z
  simp only [List.mem_cons, List.not_mem_nil, or_false, not_or] at hS
  obtain ⟨n1, n2, n3, n4, n5, n6, n7⟩ := hS
  refine ⟨?_, ⟨u, k _ _ (Ne.symm n3) hu⟩, k _ _ (Ne.symm n2) ti, j1.at fun o e => k _ o (Ne.symm n4) e, j2.at fun o e => k _ o (Ne.symm n5) e, a1.at fun o e => k _ o (Ne.symm n6) e, a2.at fun o e => k _ o (Ne.symm n7) e⟩
  rcases zz with ⟨e, hz, a, b, ho⟩ | ⟨T, f, o, e, hz, hT⟩
  · exact .inl ⟨e, k _ _ (Ne.symm n1) hz, a, b, k _ _ (Ne.symm n3) ho⟩
  · exact .inr ⟨T, f, o, e, k _ _ (Ne.symm n1) hz, k _ _ (fun q => hl (by rw [e, q])) hT⟩
theorem loopZ (hh : A.handled = none) (D : ZipApart z TI TO i1 i2 l1 l2) (hS : S ∉ [z, TI, TO, i1, i2, l1, l2]) (res : Value) (hn : min xs.size ys.size ≤ sizeLine) (h0 : Heap) (m0 : Nat)
    (n0 : ∀ b o, h0.get? b = some o → b ∉ [z, TO, i1, i2, S]) :
    ∀ (k : Nat) (s : Shared) (Ts : List Addr) (c : Nat), min xs.size ys.size - Ts.length = k → Ts.length ≤ min xs.size ys.size → ZSt s.heap z TI TO i1 i2 l1 l2 xs ys Ts.length Ts.head? →
      s.heap.get? S = some { cls := .type "list", dict := none, data := .seq (Ts.map Value.ref).toArray c, slots := #[] } → Given s.heap xs ys Ts → Ts.Nodup → (∀ T ∈ Ts, m0 ≤ T ∧ T ∉ [z, TO, i1, i2, S] ∧ T < s.heap.objs.size) → (∀ b o, h0.get? b = some o → s.heap.get? b = some o) → m0 ≤ s.heap.objs.size →
      (∀ h' Ts c, Ts.length = min xs.size ys.size → h'.get? S = some { cls := .type "list", dict := none, data := .seq (Ts.map Value.ref).toArray c, slots := #[] } → Given h' xs ys Ts → Ts.Nodup → (∀ T ∈ Ts, m0 ≤ T ∧ T ≠ S) → (∀ b o, h0.get? b = some o → h'.get? b = some o) → R (.ok (.ret res)) { s with heap := h' }) →
      codeAny (model P w) A (.builtin "list.extend.loop" ⟨[.ref S, .ref z, res], []⟩) R s := by
  have nS : S ≠ z ∧ S ≠ TO ∧ S ≠ i1 ∧ S ≠ i2 := by
    simp only [List.mem_cons, List.not_mem_nil, or_false, not_or] at hS
    exact ⟨hS.1, hS.2.2.1, hS.2.2.2.1, hS.2.2.2.2.1⟩
  have five : ∀ {b : Addr}, b ∉ [z, TO, i1, i2, S] → b ≠ z ∧ b ≠ TO ∧ b ≠ i1 ∧ b ≠ i2 ∧ b ≠ S := fun h => by
    simp only [List.mem_cons, List.not_mem_nil, or_false, not_or] at h
    exact h
  intro k
  induction k with
  | zero =>
    intro s Ts c hk hi Z hs gv nd new kp ms q
    have hd : ∀ T, Ts.head? = some T → T ≠ z ∧ T ≠ i1 ∧ T ≠ i2 := fun T e => by
      obtain ⟨m1, _, m3, m4, _⟩ := five (new T (List.mem_of_head? e)).2.1
      exact ⟨m1, m3, m4⟩
    refine codeAny_builtin F.entry_extend_loop ?_
    rw [Around.under_plainId F.plain_extend_loop _]
    refine (show wpAny _ A.in1 (pyNext (.ref z) >>= _) _ _ s from wpAny_bind (nextZ (by simp [hh]) D Z hd (fun h' x y hx hy _ _ _ _ => ?_) fun h' _ kz => ?_))
    · have b1 := (Array.getElem?_eq_some_iff.mp hx).1
      have b2 := (Array.getElem?_eq_some_iff.mp hy).1
      omega
    · refine wpAny_pure (q h' Ts c (by omega) (kz _ _ nS.1 nS.2.1 nS.2.2.1 nS.2.2.2 hs) (fun j T e => ?_) nd (fun T hT => ⟨(new T hT).1, (five (new T hT).2.1).2.2.2.2⟩) fun b o e => ?_)
      · obtain ⟨x, y, e1, e2, e3⟩ := gv j T e
        obtain ⟨m1, m2, m3, m4, _⟩ := five (new T (List.mem_of_getElem? e)).2.1
        exact ⟨x, y, e1, e2, kz _ _ m1 m2 m3 m4 e3⟩
      · obtain ⟨m1, m2, m3, m4, _⟩ := five (n0 b o e)
        exact kz _ _ m1 m2 m3 m4 (kp b o e)
  | succ k ih =>
    intro s Ts c hk hi Z hs gv nd new kp ms q
    have hd : ∀ T, Ts.head? = some T → T ≠ z ∧ T ≠ i1 ∧ T ≠ i2 := fun T e => by
      obtain ⟨m1, _, m3, m4, _⟩ := five (new T (List.mem_of_head? e)).2.1
      exact ⟨m1, m3, m4⟩
    refine codeAny_builtin F.entry_extend_loop ?_
    rw [Around.under_plainId F.plain_extend_loop _]
    refine (show wpAny _ A.in1 (pyNext (.ref z) >>= _) _ _ s from wpAny_bind (nextZ (by simp [hh]) D Z hd (fun h' x y hx hy Z' hp hz kz => ?_) fun h' hend _ => ?_))
    · have lt : ∀ {b o}, s.heap.get? b = some o → b ≠ s.heap.objs.size := fun e => Nat.ne_of_lt (Heap.lt_size e)
      have nST : S ≠ s.heap.objs.size := lt hs
      have hs' := kz _ _ nS.1 nS.2.1 nS.2.2.1 nS.2.2.2 hs
      have oth : ∀ b o, b ≠ S → h'.get? b = some o → (h'.update S (Obj.mapSeq (·.push (Value.ref s.heap.objs.size)))).get? b = some o := fun b o ne e => (Heap.get?_update_other _ _ (Ne.symm ne)).trans e
      have hs2 := Heap.get?_update_self (Obj.mapSeq (·.push (Value.ref s.heap.objs.size))) hs' rfl
      have szT : (h'.update S (Obj.mapSeq (·.push (Value.ref s.heap.objs.size)))).objs.size = s.heap.objs.size + 1 := by rw [Heap.size_update, hz]
      have hlast : (Ts ++ [s.heap.objs.size]).head? = some (Ts.head?.getD s.heap.objs.size) := by cases Ts <;> rfl
      have hlen : (Ts ++ [s.heap.objs.size]).length = Ts.length + 1 := by simp
      have keep0 : ∀ b o, h0.get? b = some o → (h'.update S (Obj.mapSeq (·.push (Value.ref s.heap.objs.size)))).get? b = some o := fun b o e => by
        obtain ⟨m1, m2, m3, m4, m5⟩ := five (n0 b o e)
        exact oth b o m5 (kz _ _ m1 m2 m3 m4 (kp b o e))
      have Z2 : ZSt (h'.update S (Obj.mapSeq (·.push (Value.ref s.heap.objs.size)))) z TI TO i1 i2 l1 l2 xs ys (Ts ++ [s.heap.objs.size]).length (Ts ++ [s.heap.objs.size]).head? := by
        rw [hlast, hlen]
        refine Z'.keep hS (fun z => ?_) oth
        have z := Option.some.inj z
        cases Ts with
        | nil => exact nST z.symm
        | cons T r => exact (five (new T List.mem_cons_self).2.1).2.2.2.2 z
      have gv2 : Given (h'.update S (Obj.mapSeq (·.push (Value.ref s.heap.objs.size)))) xs ys (Ts ++ [s.heap.objs.size]) := fun j T e => by
        by_cases hj : j < Ts.length
        · rw [List.getElem?_append_left hj] at e
          obtain ⟨x', y', e1, e2, e3⟩ := gv j T e
          obtain ⟨m1, m2, m3, m4, m5⟩ := five (new T (List.mem_of_getElem? e)).2.1
          exact ⟨x', y', e1, e2, oth _ _ m5 (kz _ _ m1 m2 m3 m4 e3)⟩
        · rw [List.getElem?_append_right (Nat.le_of_not_lt hj)] at e
          have ej : j = Ts.length := by
            have := (List.getElem?_eq_some_iff.mp e).1
            simp at this
            omega
          subst ej
          rw [Nat.sub_self] at e
          obtain rfl := (Option.some.inj e).symm
          exact ⟨x, y, hx, hy, oth _ _ (Ne.symm nST) hp⟩
      have nd2 : (Ts ++ [s.heap.objs.size]).Nodup := by
        rw [List.nodup_append]
        exact ⟨nd, by simp, fun a ha b hb e => by rw [List.mem_singleton.mp hb] at e; exact Nat.ne_of_lt (new a ha).2.2 e⟩
      have new2 : ∀ T ∈ Ts ++ [s.heap.objs.size], m0 ≤ T ∧ T ∉ [z, TO, i1, i2, S] ∧ T < (h'.update S (Obj.mapSeq (·.push (Value.ref s.heap.objs.size)))).objs.size := fun T hT => by
        rw [szT]
        rcases List.mem_append.mp hT with hT | hT
        · exact ⟨(new T hT).1, (new T hT).2.1, Nat.lt_succ_of_lt (new T hT).2.2⟩
        · rw [List.mem_singleton.mp hT]
          refine ⟨?_, ?_, Nat.lt_succ_self _⟩
          · exact ms
          · have zg : ∃ o, s.heap.get? z = some o := by
              rcases Z.zz with ⟨_, e, _⟩ | ⟨_, _, _, _, e, _⟩
              · exact ⟨_, e⟩
              · exact ⟨_, e⟩
            obtain ⟨o1, e1⟩ := zg
            obtain ⟨o2, e2⟩ := Z.tO
            obtain ⟨o3, e3, _⟩ := Z.j1
            obtain ⟨o4, e4, _⟩ := Z.j2
            simp only [List.mem_cons, List.not_mem_nil, or_false, not_or]
            exact ⟨Ne.symm (lt e1), Ne.symm (lt e2), Ne.symm (lt e3), Ne.symm (lt e4), Ne.symm nST⟩
      obtain ⟨c2, hs3⟩ : ∃ c2, (h'.update S (Obj.mapSeq (·.push (Value.ref s.heap.objs.size)))).get? S = some { cls := .type "list", dict := none, data := .seq ((Ts ++ [s.heap.objs.size]).map Value.ref).toArray c2, slots := #[] } := by
        refine ⟨c + 1, hs2.trans ?_⟩
        rw [List.map_append]
        simp [Obj.mapSeq]
      refine (show wpAny _ A.in1 (updateSeq S (·.push (Value.ref s.heap.objs.size)) >>= _) _ _ _ from wpAny_bind (wpAny_updateSeq hs' rfl (wpAny_pure ⟨plainId_quiet F.plain_extend_loop _, ih _ (Ts ++ [s.heap.objs.size]) c2 (by rw [hlen]; omega) (by rw [hlen]; omega) Z2 hs3 gv2 nd2 new2 keep0 (by rw [szT]; omega) q⟩) (by simp; omega) (by simp; omega)))
    · exfalso
      rcases hend with e | e
      · have := Array.getElem?_eq_none_iff.mp e
        omega
      · have := Array.getElem?_eq_none_iff.mp e
        omega
theorem extZ {s : Shared} {E' : Value → Shared → Prop} (hh : A.handled = none) (D : ZipApart z TI TO i1 i2 l1 l2) (hS : S ∉ [z, TI, TO, i1, i2, l1, l2]) (hn : min xs.size ys.size ≤ sizeLine) (h0 : Heap) (m0 : Nat)
    (n0 : ∀ b o, h0.get? b = some o → b ∉ [z, TO, i1, i2, S]) (Z : ZSt s.heap z TI TO i1 i2 l1 l2 xs ys 0 none) {c : Nat} (hs : s.heap.get? S = some { cls := .type "list", dict := none, data := .seq #[] c, slots := #[] }) (kp : ∀ b o, h0.get? b = some o → s.heap.get? b = some o) (ms : m0 ≤ s.heap.objs.size)
    (q : ∀ h' Ts c, Ts.length = min xs.size ys.size → h'.get? S = some { cls := .type "list", dict := none, data := .seq (Ts.map Value.ref).toArray c, slots := #[] } → Given h' xs ys Ts → Ts.Nodup → (∀ T ∈ Ts, m0 ≤ T ∧ T ≠ S) → (∀ b o, h0.get? b = some o → h'.get? b = some o) → R (.ok (.ret .none)) { s with heap := h' }) :
    wpAny (model P w) A.in1 (Builtin.List.listExtendWith (.ref S) (.ref z) .none) (fun fin t => match fin with | .done f => R (.ok f) t | .again k => k.quiet = true ∧ codeAny (model P w) A k R t) E' s := by
  have nz : S ≠ z := fun e => hS (by simp [e])
  have tz : s.TypeIs (.ref z) "zip" := by
    rcases Z.zz with ⟨_, e, _⟩ | ⟨_, _, _, _, e, _⟩ <;> exact ⟨_, e, rfl⟩
  unfold Builtin.List.listExtendWith
  refine wpAny_bind (wpAny_typeOf tz ?_)
  have b1 : Builtin.List.listSameRef (.ref S) (.ref z) = false := by simp [Builtin.List.listSameRef, nz]
  have b2 : (Value.type "zip" == Value.type "list") = false := by decide
  have b3 : (Value.type "zip" == Value.type "tuple") = false := by decide
  simp only [b1, b2, b3, Bool.or_false, Bool.false_eq_true, if_false]
  obtain ⟨f0, hz⟩ : ∃ f0, IsZip s.heap z TI TO f0 := by
    rcases Z.zz with ⟨_, e, _⟩ | ⟨_, _, _, e, _⟩
    · exact ⟨_, e⟩
    · cases e
  refine wpAny_bind (wpAny_pyIter_zip hz (wpAny_bind (wpAny_holding ?_)))
  unfold Builtin.List.listLengthHint
  refine wpAny_bind (wpAny_specialOf tz zip_len0 (show wpAny _ _ (specialOf (Value.ref z) (Str.ofString "__length_hint__") >>= _) _ _ _ from wpAny_bind (wpAny_specialOf tz zip_hint0 (wpAny_pure ?_))))
  refine (show wpAny _ _ (rule "list.extend.makes-room" >>= _) _ _ _ from wpAny_bind (wpAny_rule (wpAny_bind ?_)))
  refine (show wpAny _ _ (updateSeq S (·.push .none) >>= _) _ _ _ from wpAny_bind (wpAny_updateSeq hs rfl ?_))
  have hs2 := Heap.get?_update_self (Obj.mapSeq (·.push Value.none)) hs rfl
  refine (show wpAny _ _ (updateSeq S (·.pop)) _ _ _ from wpAny_updateSeq (hz := by seq_fits) hs2 rfl ?_)
  have hs3 := Heap.get?_update_self (Obj.mapSeq (·.pop)) hs2 rfl
  have oth : ∀ b o, b ≠ S → s.heap.get? b = some o → ((s.heap.update S (Obj.mapSeq (·.push Value.none))).update S (Obj.mapSeq (·.pop))).get? b = some o := fun b o n e =>
    (Heap.get?_update_other _ _ (Ne.symm n)).trans ((Heap.get?_update_other _ _ (Ne.symm n)).trans e)
  refine wpAny_pure ⟨plainId_quiet F.plain_extend_loop _, loopZ hh D hS .none hn h0 m0 n0 _ _ [] (c + 1 + 1) rfl (Nat.zero_le _) (Z.keep hS (fun e => nomatch e) oth) ?_ (fun j T e => by simp at e) List.nodup_nil (fun T hT => nomatch hT) (fun b o e => oth b o (fun z => n0 b o e (by simp [z])) (kp b o e)) (by rw [Heap.size_update, Heap.size_update]; exact ms) q⟩
  exact hs3
theorem listZip {s : Shared} {Q : Value → Shared → Prop} {E : Value → Shared → Prop} (hh : A.handled = none) (D : ZipApart z TI TO i1 i2 l1 l2) (hn : min xs.size ys.size ≤ sizeLine) (h0 : Heap) (m0 : Nat)
    (n0 : ∀ b o, h0.get? b = some o → b ∉ [z, TO, i1, i2]) (Z : ZSt s.heap z TI TO i1 i2 l1 l2 xs ys 0 none) (kp : ∀ b o, h0.get? b = some o → s.heap.get? b = some o) (big : ∀ b ∈ [z, TI, TO, i1, i2, l1, l2], b < s.heap.objs.size) (ms : m0 ≤ s.heap.objs.size)
    (q : ∀ h' Ts c, Ts.length = min xs.size ys.size → h'.get? s.heap.objs.size = some { cls := .type "list", dict := none, data := .seq (Ts.map Value.ref).toArray c, slots := #[] } → Given h' xs ys Ts → Ts.Nodup → (∀ T ∈ Ts, m0 ≤ T ∧ T ≠ s.heap.objs.size) → (∀ b o, h0.get? b = some o → h'.get? b = some o) → Q (.ref s.heap.objs.size) { s with heap := h' }) :
    wpAny (model P w) A (call (.type "list") [.ref z]) Q E s := by
  have hS : s.heap.objs.size ∉ [z, TI, TO, i1, i2, l1, l2] := fun m => Nat.lt_irrefl _ (big _ m)
  have lt0 : ∀ b o, h0.get? b = some o → b ≠ s.heap.objs.size := fun b o e => Nat.ne_of_lt (Heap.lt_size (kp b o e))
  refine callType_codes (Q₁ := fun v t => v = .ref s.heap.objs.size ∧ t = { s with heap := s.heap.push { cls := .type "list", data := .seq #[] } }) F.called_list (F.typeCall_list_1 _) F.entry_list_init (code_list_new _ ⟨rfl, rfl⟩) fun v t ht => ?_
  obtain ⟨rfl, rfl⟩ := ht
  have g0 : (s.heap.push { cls := .type "list", data := .seq #[] }).get? s.heap.objs.size = some { cls := .type "list", data := .seq #[] } := Heap.get?_push_size _ rfl
  refine ⟨⟨_, g0, rfl⟩, F.args_list_init_2 _ _, ?_⟩
  refine (show wpAny _ _ (Builtin.List.listItems (.ref s.heap.objs.size) >>= _) _ _ _ from wpAny_bind ?_)
  unfold Builtin.List.listItems
  refine wpAny_bind (wpAny_seqItems g0 rfl (wpAny_pure ?_))
  refine (show wpAny _ _ (updateSeq s.heap.objs.size (fun _ => #[]) >>= _) _ _ _ from wpAny_bind (wpAny_updateSeq g0 rfl (wpAny_bind (wpAny_letGo ?_))))
  have g1 := Heap.get?_update_self (Obj.mapSeq (fun _ => (#[] : Array Value))) g0 rfl
  have oth : ∀ b o, b ≠ s.heap.objs.size → s.heap.get? b = some o → ((s.heap.push { cls := .type "list", data := .seq #[] }).update s.heap.objs.size (Obj.mapSeq (fun _ => (#[] : Array Value)))).get? b = some o := fun b o n e =>
    (Heap.get?_update_other _ _ (Ne.symm n)).trans (Heap.get?_push_of_some _ e)
  exact extZ (s := { s with heap := (s.heap.push { cls := .type "list", data := .seq #[] }).update s.heap.objs.size (Obj.mapSeq (fun _ => (#[] : Array Value))) }) (R := wants (fun r t => r = .none ∧ Q (.ref s.heap.objs.size) t) E) (by simp [hh]) D hS hn h0 m0
    (fun b o e m => by
      rcases List.mem_append.mp (show b ∈ [z, TO, i1, i2] ++ [s.heap.objs.size] from m) with m | m
      · exact n0 b o e m
      · exact lt0 b o e (List.mem_singleton.mp m)) (Z.keep hS (fun e => nomatch e) oth) g1 (fun b o e => oth b o (lt0 b o e) (kp b o e)) (by rw [Heap.size_update, Heap.size_push]; exact Nat.le_succ_of_le ms) fun h' Ts c a1 a2 a3 a4 a5 a6 => ⟨rfl, q h' Ts c a1 a2 a3 a4 a5 a6⟩
end
end Spk
namespace Spk
open PySem PySem.Spec PyProof.Rows L2
/-! ### the rule -/
theorem look_put {α : Type} : ∀ {Ts : List Addr} {ws : List α} {j : Nat} {T : Addr} {w : α}, Ts.Nodup → Ts[j]? = some T → ws[j]? = some w → List.lookup T (Ts.zip ws) = some w
  | [], _, _, _, _, _, h, _ => by simp at h
  | _ :: _, [], _, _, _, _, _, h => by simp at h
  | t :: Ts, u :: ws, 0, T, w, _, h1, h2 => by
    obtain rfl := Option.some.inj h1
    obtain rfl := Option.some.inj h2
    simp [List.lookup]
  | t :: Ts, u :: ws, j + 1, T, w, nd, h1, h2 => by
    have h1 : Ts[j]? = some T := by simpa using h1
    have h2 : ws[j]? = some w := by simpa using h2
    have ne : (T == t) = false := by
      rw [beq_eq_false_iff_ne]
      rintro rfl
      exact (List.nodup_cons.mp nd).1 (List.mem_of_getElem? h1)
    rw [List.zip_cons_cons, List.lookup, ne]
    exact look_put (List.nodup_cons.mp nd).2 h1 h2
theorem look_get {α : Type} : ∀ {Ts : List Addr} {ws : List α} {T : Addr} {w : α}, List.lookup T (Ts.zip ws) = some w → ∃ j : Nat, Ts[j]? = some T ∧ ws[j]? = some w
  | [], _, _, _, h => by simp [List.lookup] at h
  | _ :: _, [], _, _, h => by simp [List.lookup] at h
  | t :: Ts, u :: ws, T, w, h => by
    rw [List.zip_cons_cons, List.lookup] at h
    by_cases e : (T == t) = true
    · rw [e] at h
      exact ⟨0, by simp [beq_iff_eq.mp e], by simpa using h⟩
    · rw [Bool.eq_false_iff.mpr e] at h
      obtain ⟨j, h1, h2⟩ := look_get h
      exact ⟨j + 1, by simpa using h1, by simpa using h2⟩
theorem vals_addrs : ∀ Ts : List Addr, Vals (Ts.map V.ref) (Ts.map Value.ref)
  | [] => .nil
  | _ :: Ts => .cons rfl (vals_addrs Ts)
theorem vals_ref2 {a b : Addr} : ∀ {us : List Value}, Vals [.ref a, .ref b] us → us = [.ref a, .ref b]
  | _, .cons (b := u) e1 r => by
    obtain rfl : u = .ref a := e1
    rw [Vals.ref1 r]
/-- the heap with a new list at r of new tuples -/
def zipHp (H : Hp) (r : Addr) (Ts : List Addr) (xs ys : List V) : Hp := fun b => if b = r then some (.lst (Ts.map V.ref)) else (List.lookup b (Ts.zip (List.zipWith (fun x y => HO.tup [x, y]) xs ys))).or (H b)
theorem zipHp_r {H : Hp} {r : Addr} {Ts : List Addr} {xs ys : List V} : zipHp H r Ts xs ys r = some (.lst (Ts.map V.ref)) := if_pos rfl
theorem zipHp_t {H : Hp} {r T : Addr} {Ts : List Addr} {xs ys : List V} {x y : V} {j : Nat} (nd : Ts.Nodup) (nr : T ≠ r) (e : Ts[j]? = some T) (ex : xs[j]? = some x) (ey : ys[j]? = some y) : zipHp H r Ts xs ys T = some (.tup [x, y]) := by
  have l := look_put (ws := List.zipWith (fun x y => HO.tup [x, y]) xs ys) nd e (by rw [List.getElem?_zipWith, ex, ey])
  exact (if_neg nr).trans (by rw [l]; exact Option.some_or)
theorem zipHp_o {H : Hp} {r c : Addr} {Ts : List Addr} {xs ys : List V} (nr : c ≠ r) (nT : c ∉ Ts) : zipHp H r Ts xs ys c = H c := by
  have l : List.lookup c (Ts.zip (List.zipWith (fun x y => HO.tup [x, y]) xs ys)) = none := by
    cases e : List.lookup c (Ts.zip (List.zipWith (fun x y => HO.tup [x, y]) xs ys)) with
    | none => rfl
    | some w =>
      obtain ⟨j, e1, _⟩ := look_get e
      exact absurd (List.mem_of_getElem? e1) nT
  exact (if_neg nr).trans (by rw [l]; exact Option.none_or)
theorem zipHp_inv {H : Hp} {r c : Addr} {Ts : List Addr} {xs ys : List V} {u : HO} (h : zipHp H r Ts xs ys c = some u) : (c = r ∧ u = .lst (Ts.map V.ref)) ∨ (∃ (j : Nat) (x y : V), Ts[j]? = some c ∧ xs[j]? = some x ∧ ys[j]? = some y ∧ u = .tup [x, y]) ∨ H c = some u := by
  by_cases cr : c = r
  · subst cr
    exact .inl ⟨rfl, (Option.some.inj (zipHp_r.symm.trans h)).symm⟩
  · have h : (List.lookup c (Ts.zip (List.zipWith (fun x y => HO.tup [x, y]) xs ys))).or (H c) = some u := (if_neg cr).symm.trans h
    cases lk : List.lookup c (Ts.zip (List.zipWith (fun x y => HO.tup [x, y]) xs ys)) with
    | none =>
      rw [lk, Option.none_or] at h
      exact .inr (.inr h)
    | some w =>
      rw [lk, Option.some_or] at h
      obtain rfl := Option.some.inj h
      obtain ⟨j, e1, e2⟩ := look_get lk
      rw [List.getElem?_zipWith] at e2
      cases ex : xs[j]? with
      | none => rw [ex] at e2; cases e2
      | some x =>
        cases ey : ys[j]? with
        | none => rw [ex, ey] at e2; cases e2
        | some y =>
          rw [ex, ey] at e2
          exact .inr (.inl ⟨j, x, y, e1, ex, ey, (Option.some.inj e2).symm⟩)
section
variable {X : Cx}
def tLstZip (K : PySem.W.Frag) (ta : TA) : TE := fun σ H Q => ta σ H fun vs H1 => ∃ a b xs ys, vs = [.ref a, .ref b] ∧ SqL K H1 a xs ∧ SqL K H1 b ys ∧
  ∀ (r : Addr) (ts : List Addr) (H' : Hp), H1 r = none → H' r = some (.lst (ts.map V.ref)) → ts.length = min xs.length ys.length → (∀ (i : Nat) t, ts[i]? = some t → ∃ x y, xs[i]? = some x ∧ ys[i]? = some y ∧ H' t = some (.tup [x, y])) → Same H1 H' → Q (.ref r) H'
theorem pe_listZip {e e2 : Expr} {ta : TA} {p p2 pos pos2 : Pos} (hg : Gl X "list") (hm : X.mg "list" = none) (hg2 : Gl X "zip") (hm2 : X.mg "zip" = none) (hc : X.calm = true) (ha : PA X [e, e2] ta)
    (hs : starEach [e, e2] X.env = (false, eval e X.env) :: starEach [e2] X.env := by rfl) (hpl : (backTo pos2 (starEach [e2] X.env)).any (·.1) = false := by rfl)
    (hs2 : starEach [.Call (.Name "zip" p2) [e, e2] [] pos2] X.env = (false, eval (.Call (.Name "zip" p2) [e, e2] [] pos2) X.env) :: starEach [] X.env := by rfl) :
    PE X (.Call (.Name "list" p) [.Call (.Name "zip" p2) [e, e2] [] pos2] [] pos) (tLstZip X.K ta) := by
  refine ⟨fun pins s σ H Q I h => ?_⟩
  refine Call_ (ld_blt I hg hm boot_list (callWith_type1 (args_cons (Call_ (ld_blt I hg2 hm2 boot_zip (callWith_type1 (thn (ha.run pos2 pins s σ H _ I h) fun us s1 ⟨vs, H1, I1, r1, q1⟩ => ?_) hs hpl))) hs2) hs2 rfl))
  obtain ⟨a, b, xs, ys, rfl, sx, sy, q⟩ := q1
  obtain ⟨its, rv, p1, z1⟩ := I1.list sx
  obtain ⟨its2, rv2, p2', z2⟩ := I1.list sy
  have la : a < s1.heap.objs.size := p1.lt
  have lb : b < s1.heap.objs.size := p2'.lt
  have eus := vals_ref2 r1
  subst eus
  refine call_zip_2 p1.isList p2'.isList fun h' hz hTI hTO h1 h2 hsz hk => args_nil ?_
  have lx : its.toArray.size = xs.length := by rw [List.size_toArray, ← rv.length]
  have ly : its2.toArray.size = ys.length := by rw [List.size_toArray, ← rv2.length]
  have hn : min its.toArray.size its2.toArray.size ≤ sizeLine := by rw [lx]; exact Nat.le_trans (Nat.min_le_left ..) z1
  have old : ∀ b o, s1.heap.get? b = some o → b < s1.heap.objs.size := fun b o e => Heap.lt_size e
  refine listZip (s := { s1 with heap := h' }) (I1.ok.hd hc) (PySem.W.ktu_apart s1.heap.objs.size a b la lb) hn s1.heap s1.heap.objs.size (fun c o e m => ?_)
    ⟨.inl ⟨rfl, hz, _, _, hTO⟩, ⟨_, hTO⟩, hTI, h1, h2, p1.isList.at fun o e => hk _ _ e, p2'.isList.at fun o e => hk _ _ e⟩ hk (fun c m => ?_) (by show s1.heap.objs.size ≤ h'.objs.size; omega) fun hF Ts c a1 a2 a3 a4 a5 a6 => ?_
  · have := old c o e
    simp only [List.mem_cons, List.not_mem_nil, or_false] at m
    rcases m with m | m | m | m <;> rw [m] at this <;> first | exact Nat.lt_irrefl _ this | exact absurd this (Nat.not_lt.mpr (Nat.le_add_right _ _))
  · show c < h'.objs.size
    rw [hsz]
    simp only [List.mem_cons, List.not_mem_nil, or_false] at m
    have up : ∀ {k : Nat}, k < 5 → s1.heap.objs.size + k < s1.heap.objs.size + 5 := fun h => Nat.add_lt_add_left h _
    rcases m with m | m | m | m | m | m | m <;> rw [m]
    · exact up (by decide)
    · exact up (by decide)
    · exact up (by decide)
    · exact up (k := 0) (by decide)
    · exact up (by decide)
    · exact Nat.lt_of_lt_of_le la (Nat.le_add_right _ _)
    · exact Nat.lt_of_lt_of_le lb (Nat.le_add_right _ _)
  have fr : ∀ c, s1.heap.objs.size ≤ c → H1 c = none := fun c hc => I1.hok.fresh hc
  have mr : s1.heap.objs.size ≤ h'.objs.size := by omega
  have lT : Ts.length = min xs.length ys.length := by rw [a1, lx, ly]
  generalize h'.objs.size = r at *
  have gt : ∀ (j : Nat) T, Ts[j]? = some T → ∃ x y, xs[j]? = some x ∧ ys[j]? = some y ∧ zipHp H1 r Ts xs ys T = some (.tup [x, y]) := fun j T e => by
    have hj := (List.getElem?_eq_some_iff.mp e).1
    have j1 : j < xs.length := by omega
    have j2 : j < ys.length := by omega
    exact ⟨_, _, List.getElem?_eq_getElem j1, List.getElem?_eq_getElem j2, zipHp_t a4 (a5 T (List.mem_of_getElem? e)).2 e (List.getElem?_eq_getElem j1) (List.getElem?_eq_getElem j2)⟩
  have zo : ∀ c, c < s1.heap.objs.size → zipHp H1 r Ts xs ys c = H1 c := fun c hc => zipHp_o (Nat.ne_of_lt (Nat.lt_of_lt_of_le hc mr)) fun m => Nat.lt_irrefl _ (Nat.lt_of_lt_of_le hc (a5 c m).1)
  have zs : ∀ c u, H1 c = some u → zipHp H1 r Ts xs ys c = some u := fun c u e => (zo c (I1.hok.lt e)).trans e
  have hok : HOk X.prog X.w (zipHp H1 r Ts xs ys) hF := fun c u e => by
    rcases zipHp_inv e with ⟨rfl, rfl⟩ | ⟨j, x, y, e1, ex, ey, rfl⟩ | e
    · exact ⟨by rw [List.length_map, a1]; exact hn, _, _, vals_addrs Ts, a2⟩
    · obtain ⟨v1, v2, g1, g2, g3⟩ := a3 j c e1
      obtain ⟨w1, h1', r1⟩ := rv.get ex
      obtain ⟨w2, h2', r2⟩ := rv2.get ey
      have e3 : some w1 = some v1 := by rw [← h1', ← g1]; simp
      have e4 : some w2 = some v2 := by rw [← h2', ← g2]; simp
      obtain rfl := Option.some.inj e3
      obtain rfl := Option.some.inj e4
      exact ⟨(by show 2 ≤ sizeLine; decide), [w1, w2], .cons r1 (.cons r2 .nil), ⟨_, g3, rfl, _, rfl⟩⟩
    · exact (I1.hok c u e).stay (fun d v _ q => a6 d v q) (fun d q => zs _ _ q) fun d zs' q => zs _ _ q
  have un : Un (frs X.stack) [] H1 (zipHp H1 r Ts xs ys) s1.heap hF :=
    ⟨fun b u q _ _ _ => a6 b u q, fun b u q _ _ _ => ⟨u.slots, a6 b u q⟩, fun b u q n _ => (zo b (old _ _ q)).trans n, fun b u q _ => ⟨u, a6 b u q⟩, fun b _ q => zs _ _ q, fun b _ _ q => zs _ _ q, fun b _ q => ⟨#[], by rw [zs _ _ q]; simp⟩⟩
  have J : Inv X pins σ (zipHp H1 r Ts xs ys) { s1 with heap := hF, gens := s1.gens, drawn := s1.drawn, toks := s1.toks } := I1.call (s := s1) (ch := []) un hok I1.bare (fun _ z => nomatch z)
  exact ⟨.ref r, zipHp H1 r Ts xs ys, J, rfl, q r Ts _ (fr _ mr) zipHp_r lT gt zs⟩
end
end Spk

/-! list(reversed(xs)) of a list -/
namespace Spk
open PySem PySem.Spec PyProof.Rows L2 RT
abbrev Back (items : Array Value) (i : Nat) (v : Value) : Prop := items[items.size - 1 - i]? = some v
section
variable {P : Program} {w : World} {A : Around} {it l S : Addr} {items : Array Value}
theorem extR {s : Shared} {E' : Value → Shared → Prop} {R : Result → Shared → Prop} (hh : A.handled = none) (nSi : S ≠ it) (nSl : S ≠ l) (hit : s.heap.IsRevIter it l ((items.size : Int) - 1)) (hl : s.heap.IsList l items) (hne : l ≠ it) (hn : items.size ≤ sizeLine)
    {c : Nat} (hs : s.heap.get? S = some { cls := .type "list", dict := none, data := .seq #[] c, slots := #[] })
    (q : ∀ (h' : Heap) (tk : Nat) acc c', (∀ b o, b ≠ S → b ≠ it → s.heap.get? b = some o → h'.get? b = some o) → h'.get? S = some { cls := .type "list", dict := none, data := .seq acc c', slots := #[] } → ItemsOf (Back items) acc items.size → R (.ok (.ret .none)) { s with heap := h', toks := tk }) :
    wpAny (model P w) A.in1 (Builtin.List.listExtendWith (.ref S) (.ref it) .none) (fun fin t => match fin with | .done f => R (.ok f) t | .again k => k.quiet = true ∧ codeAny (model P w) A k R t) E' s := by
  have tz : s.TypeIs (.ref it) "list_reverseiterator" := hit.typeIs
  unfold Builtin.List.listExtendWith
  refine wpAny_bind (wpAny_typeOf tz ?_)
  have b1 : Builtin.List.listSameRef (.ref S) (.ref it) = false := by simp [Builtin.List.listSameRef, nSi]
  rw [if_neg (by rw [b1]; decide)]
  refine wpAny_bind (wpAny_pyIter_revIter hit (wpAny_bind (wpAny_holding ?_)))
  unfold Builtin.List.listLengthHint
  refine wpAny_bind (wpAny_specialOf tz nolen_lri (show wpAny _ _ (specialOf (Value.ref it) (Str.ofString "__length_hint__") >>= _) _ _ _ from wpAny_bind (wpAny_specialOf tz hint_lri ?_)))
  generalize e0 : ("list_reverseiterator.__length_hint__" : String) = x0
  wp_delta
  rw [show splitId x0 = some ("list_reverseiterator", "__length_hint__") from by subst e0; decide +kernel]
  subst e0
  refine wpAny_bind (wpAny_isInstance (b := true) tz (by rw [isSubtype_type]; kernel_rfl) (wpAny_pure ?_))
  rw [if_neg (by decide)]
  have e1 : ((items.size : Nat) : Int) - 1 - ((0 : Nat) : Int) = (items.size : Int) - 1 := by omega
  refine wpAny_pure ⟨plainId_quiet F.plain_extend_loop _, codeAny_extend_loopS (Walks.listRev (prog := P) (w := w) (A := A.in1) hh it l hne items).toS hn S (by simp [nSi, nSl]) .none items.size 0 s #[] c rfl (Nat.zero_le _) ⟨Nat.zero_le _, by rw [e1]; exact hit, hl⟩ hs (ItemsOf.nil _) fun t acc c' hm ht ha => ?_⟩
  rw [Moved.eq_with hm]
  exact q t.heap t.toks acc c' (fun b o n1 n2 e => hm.heap b o (by simp [n1, n2]) e) ht ha
theorem listRev {s : Shared} {Q : Value → Shared → Prop} {E : Value → Shared → Prop} (hh : A.handled = none) (hit : s.heap.IsRevIter it l ((items.size : Int) - 1)) (hl : s.heap.IsList l items) (hne : l ≠ it) (hn : items.size ≤ sizeLine)
    (q : ∀ (h' : Heap) (tk : Nat) acc c', (∀ b o, b ≠ it → s.heap.get? b = some o → h'.get? b = some o) → h'.get? s.heap.objs.size = some { cls := .type "list", dict := none, data := .seq acc c', slots := #[] } → ItemsOf (Back items) acc items.size → Q (.ref s.heap.objs.size) { s with heap := h', toks := tk }) :
    wpAny (model P w) A (call (.type "list") [.ref it]) Q E s := by
  obtain ⟨oi, hoi, _⟩ := id hit
  obtain ⟨ol, hol, _⟩ := id hl
  have nSi : s.heap.objs.size ≠ it := Nat.ne_of_gt (Heap.lt_size hoi)
  have nSl : s.heap.objs.size ≠ l := Nat.ne_of_gt (Heap.lt_size hol)
  refine callType_codes (Q₁ := fun v t => v = .ref s.heap.objs.size ∧ t = { s with heap := s.heap.push { cls := .type "list", data := .seq #[] } }) F.called_list (F.typeCall_list_1 _) F.entry_list_init (code_list_new _ ⟨rfl, rfl⟩) fun v t ht => ?_
  obtain ⟨rfl, rfl⟩ := ht
  have g0 : (s.heap.push { cls := .type "list", data := .seq #[] }).get? s.heap.objs.size = some { cls := .type "list", data := .seq #[] } := Heap.get?_push_size _ rfl
  refine ⟨⟨_, g0, rfl⟩, F.args_list_init_2 _ _, ?_⟩
  refine (show wpAny _ _ (Builtin.List.listItems (.ref s.heap.objs.size) >>= _) _ _ _ from wpAny_bind ?_)
  unfold Builtin.List.listItems
  refine wpAny_bind (wpAny_seqItems g0 rfl (wpAny_pure ?_))
  refine (show wpAny _ _ (updateSeq s.heap.objs.size (fun _ => #[]) >>= _) _ _ _ from wpAny_bind (wpAny_updateSeq g0 rfl (wpAny_bind (wpAny_letGo ?_))))
  have g1 := Heap.get?_update_self (Obj.mapSeq (fun _ => (#[] : Array Value))) g0 rfl
  have oth : ∀ b o, b ≠ s.heap.objs.size → s.heap.get? b = some o → ((s.heap.push { cls := .type "list", data := .seq #[] }).update s.heap.objs.size (Obj.mapSeq (fun _ => (#[] : Array Value)))).get? b = some o := fun b o n e =>
    (Heap.get?_update_other _ _ (Ne.symm n)).trans (Heap.get?_push_of_some _ e)
  refine extR (s := { s with heap := (s.heap.push { cls := .type "list", data := .seq #[] }).update s.heap.objs.size (Obj.mapSeq (fun _ => (#[] : Array Value))) }) (R := wants (fun r t => r = .none ∧ Q (.ref s.heap.objs.size) t) E) (by simp [hh]) nSi nSl
    (hit.at fun o e => oth _ _ (Ne.symm nSi) e) (hl.at fun o e => oth _ _ (Ne.symm nSl) e) hne hn g1 fun h' tk acc c' a1 a2 a3 => ⟨rfl, q h' tk acc c' (fun b o n e => ?_) a2 a3⟩
  have nb : b ≠ s.heap.objs.size := Nat.ne_of_lt (Heap.lt_size e)
  exact a1 b o nb n (oth b o nb e)
end
section
variable {X : Cx}
def tLstRev (K : PySem.W.Frag) (te : TE) : TE := fun σ H Q => te σ H fun v H1 => ∃ (a : Addr) (xs : List V), v = .ref a ∧ SqL K H1 a xs ∧ ∀ q, H1 q = none → Q (.ref q) (upd H1 q (.lst xs.reverse))
theorem pe_listRev {e : Expr} {te : TE} {p p2 pos pos2 : Pos} (hg : Gl X "list") (hm : X.mg "list" = none) (hg2 : Gl X "reversed") (hm2 : X.mg "reversed" = none) (hc : X.calm = true) (he : PE X e te)
    (hs : starEach [e] X.env = (false, eval e X.env) :: starEach [] X.env := by rfl)
    (hs2 : starEach [.Call (.Name "reversed" p2) [e] [] pos2] X.env = (false, eval (.Call (.Name "reversed" p2) [e] [] pos2) X.env) :: starEach [] X.env := by rfl) :
    PE X (.Call (.Name "list" p) [.Call (.Name "reversed" p2) [e] [] pos2] [] pos) (tLstRev X.K te) := by
  refine ⟨fun pins s σ H Q I h => ?_⟩
  refine Call_ (ld_blt I hg hm boot_list (callWith_type1 (args_cons (Call_ (ld_blt I hg2 hm2 boot_reversed (callWith_type1 (args_cons (thn (he.run pins s σ H _ I h) fun u s1 ⟨v, H1, I1, r1, q1⟩ => args_nil ?_) hs) hs rfl))) hs2) hs2 rfl))
  obtain ⟨a, xs, rfl, hq, q⟩ := q1
  obtain rfl : u = Value.ref a := r1
  obtain ⟨its, rv, p', hz⟩ := I1.list hq
  refine call_reversed_list p'.isList (args_nil ?_)
  have la := p'.lt
  have hn : its.toArray.size ≤ sizeLine := by rw [List.size_toArray, ← rv.length]; exact hz
  refine listRev (s := { s1 with heap := s1.heap.push (revObj a ((its.toArray.size : Int) - 1)) }) (I1.ok.hd hc) ⟨_, Heap.get?_push_size _ rfl, rfl, rfl⟩ (p'.isList.push _) (Nat.ne_of_lt la) hn fun h' tk acc c' hk hr hi => ?_
  have up : s1.heap.objs.size ≤ (s1.heap.push (revObj a ((its.toArray.size : Int) - 1))).objs.size := by rw [Heap.size_push]; exact Nat.le_succ _
  have J : Inv X pins σ (upd H1 (s1.heap.push (revObj a ((its.toArray.size : Int) - 1))).objs.size (.lst xs.reverse)) { s1 with heap := h', toks := tk } :=
    I1.laid (t' := tk) (fun b u e => hk b u (Nat.ne_of_lt (Heap.lt_size e)) (Heap.get?_push_of_some _ e)) up ⟨by rw [List.length_reverse]; exact hz, acc.toList, c', vals_rev rv hi, hr⟩
  exact ⟨.ref _, _, J, rfl, q _ (I1.hok.fresh up)⟩
end
end Spk

/-! the begins that no other stretch reaches, the ends beyond which none goes: those of the union -/
namespace Spk
theorem strict_uniq : ∀ {l m : List Int}, l.Pairwise (· < ·) → m.Pairwise (· < ·) → (∀ k, k ∈ l ↔ k ∈ m) → l = m
  | [], [], _, _, _ => rfl
  | [], b :: m, _, _, h => absurd ((h b).mpr List.mem_cons_self) List.not_mem_nil
  | a :: l, [], _, _, h => absurd ((h a).mp List.mem_cons_self) List.not_mem_nil
  | a :: l, b :: m, hl, hm, h => by
    obtain ⟨l1, l2⟩ := List.pairwise_cons.mp hl
    obtain ⟨m1, m2⟩ := List.pairwise_cons.mp hm
    have e : a = b := by
      rcases List.mem_cons.mp ((h a).mp List.mem_cons_self) with e | e
      · exact e
      · rcases List.mem_cons.mp ((h b).mpr List.mem_cons_self) with e' | e'
        · exact e'.symm
        · have := m1 a e; have := l1 b e'; omega
    subst e
    refine congrArg (a :: ·) (strict_uniq l2 m2 fun k => ⟨fun hk => ?_, fun hk => ?_⟩)
    · rcases List.mem_cons.mp ((h k).mp (List.mem_cons_of_mem _ hk)) with e | e
      · have := l1 k hk; omega
      · exact e
    · rcases List.mem_cons.mp ((h k).mpr (List.mem_cons_of_mem _ hk)) with e | e
      · have := m1 k hk; omega
      · exact e
theorem gapd_pw2 : ∀ {l : List Pr}, gapd l = true → (∀ q ∈ l, q.1 ≤ q.2) → l.Pairwise fun a b => a.2 < b.1
  | [], _, _ => .nil
  | p :: r, h, hq => List.pairwise_cons.mpr ⟨gapd_lt h fun q m => hq q (List.mem_cons_of_mem _ m), gapd_pw2 (gapd_tail h) fun q m => hq q (List.mem_cons_of_mem _ m)⟩
theorem oneF_pw {z : Bool} {l : List Pr} (h : oneF z l = true) : l.Pairwise fun a b => a.2 < b.1 := gapd_pw2 (by unfold oneF at h; rw [Bool.and_eq_true] at h; exact h.2) (oneF_le h)
theorem oneF_full {z : Bool} {l : List Pr} (h : oneF z l = true) : ∀ p ∈ l, emp z p = false := fun p hp => by
  unfold oneF at h
  rw [Bool.and_eq_true, List.all_eq_true] at h
  simpa using h.1 p hp
theorem pw_two : ∀ {l : List Pr}, (l.Pairwise fun a b => a.2 < b.1) → ∀ {p q : Pr}, p ∈ l → q ∈ l → p = q ∨ p.2 < q.1 ∨ q.2 < p.1
  | c :: _, h, p, q, hp, hq => by
    obtain ⟨h1, h2⟩ := List.pairwise_cons.mp h
    rcases List.mem_cons.mp hp with e1 | hp
    · rcases List.mem_cons.mp hq with e2 | hq
      · exact .inl (e1.trans e2.symm)
      · exact .inr (.inl (e1 ▸ h1 q hq))
    · rcases List.mem_cons.mp hq with e2 | hq
      · exact .inr (.inr (e2 ▸ h1 p hp))
      · exact pw_two h2 hp hq
def uncB (l : List Pr) (b : Int) : Bool := decide ((l.filter fun o => decide (o.1 < b) && decide (b ≤ o.2)) = [])
def uncE (l : List Pr) (e : Int) : Bool := decide ((l.filter fun o => decide (o.1 ≤ e) && decide (e < o.2)) = [])
theorem filter_no {l : List Pr} {f : Pr → Bool} : l.filter f = [] ↔ ¬ ∃ o ∈ l, f o = true := by
  rw [List.filter_eq_nil_iff]
  exact ⟨fun h ⟨o, ho, e⟩ => h o ho e, fun h o ho e => h ⟨o, ho, e⟩⟩
theorem uncB_iff (z : Bool) {l : List Pr} {b : Int} : uncB l b = true ↔ ¬ cov z l (2 * b - 1) := by
  unfold uncB
  rw [decide_eq_true_eq, filter_no]
  refine not_congr ⟨fun ⟨o, ho, e⟩ => ⟨o, ho, ?_⟩, fun ⟨o, ho, e⟩ => ⟨o, ho, ?_⟩⟩
  · simp only [Bool.and_eq_true, decide_eq_true_eq] at e
    unfold covP; split <;> omega
  · unfold covP at e
    simp only [Bool.and_eq_true, decide_eq_true_eq]
    split at e <;> omega
theorem uncE_iff (z : Bool) {l : List Pr} {e : Int} : uncE l e = true ↔ ¬ cov z l (2 * e + (if z then 1 else 0)) := by
  unfold uncE
  rw [decide_eq_true_eq, filter_no]
  refine not_congr ⟨fun ⟨o, ho, h⟩ => ⟨o, ho, ?_⟩, fun ⟨o, ho, h⟩ => ⟨o, ho, ?_⟩⟩
  · simp only [Bool.and_eq_true, decide_eq_true_eq] at h
    unfold covP; cases z <;> simp <;> omega
  · unfold covP at h
    simp only [Bool.and_eq_true, decide_eq_true_eq]
    cases z <;> simp at h ⊢ <;> omega
def begL (l : List Pr) : List Int := (l.filter fun p => uncB l p.1).map (·.1)
def endL (l : List Pr) : List Int := (l.filter fun p => uncE l p.2).map (·.2)
theorem mem_begL {z : Bool} {l : List Pr} (hl : ∀ p ∈ l, emp z p = false) {k : Int} : k ∈ begL l ↔ cov z l (2 * k) ∧ ¬ cov z l (2 * k - 1) := by
  constructor
  · intro h
    obtain ⟨p, hp, rfl⟩ := List.mem_map.mp h
    obtain ⟨hp, hu⟩ := List.mem_filter.mp hp
    exact ⟨⟨p, hp, full_cov (hl p hp)⟩, (uncB_iff z).mp hu⟩
  · rintro ⟨⟨p, hp, c1, c2⟩, hn⟩
    have e : p.1 = k := Classical.byContradiction fun ne => hn ⟨p, hp, by omega, by omega⟩
    subst e
    exact List.mem_map.mpr ⟨p, List.mem_filter.mpr ⟨hp, (uncB_iff z).mpr hn⟩, rfl⟩
theorem mem_endL {z : Bool} {l : List Pr} (hl : ∀ p ∈ l, emp z p = false) {k : Int} : k ∈ endL l ↔ cov z l (2 * k - 1 + (if z then 1 else 0)) ∧ ¬ cov z l (2 * k + (if z then 1 else 0)) := by
  constructor
  · intro h
    obtain ⟨p, hp, rfl⟩ := List.mem_map.mp h
    obtain ⟨hp, hu⟩ := List.mem_filter.mp hp
    refine ⟨⟨p, hp, ?_⟩, (uncE_iff z).mp hu⟩
    have := hl p hp
    unfold emp at this
    unfold covP
    cases z <;> simp at this ⊢ <;> omega
  · rintro ⟨⟨p, hp, c1, c2⟩, hn⟩
    have e : p.2 = k := Classical.byContradiction fun ne => hn ⟨p, hp, by omega, by omega⟩
    subst e
    exact List.mem_map.mpr ⟨p, List.mem_filter.mpr ⟨hp, (uncE_iff z).mpr hn⟩, rfl⟩
theorem begL_one {z : Bool} {l : List Pr} (h : oneF z l = true) : begL l = l.map (·.1) := by
  unfold begL
  rw [List.filter_eq_self.mpr]
  intro p hp
  rw [uncB_iff z]
  rintro ⟨q, hq, c1, c2⟩
  have lp := oneF_le h p hp
  rcases pw_two (oneF_pw h) hp hq with rfl | g | g
  · omega
  · omega
  · split at c2 <;> omega
theorem endL_one {z : Bool} {l : List Pr} (h : oneF z l = true) : endL l = l.map (·.2) := by
  unfold endL
  rw [List.filter_eq_self.mpr]
  intro p hp
  rw [uncE_iff z]
  rintro ⟨q, hq, c1, c2⟩
  have lp := oneF_le h p hp
  have lq := oneF_le h q hq
  rcases pw_two (oneF_pw h) hp hq with rfl | g | g
  · omega
  · split at c1 <;> omega
  · split at c2 <;> omega
abbrev fullOf (z : Bool) (ps : List Pr) : List Pr := ps.filter fun p => !emp z p
theorem full_mem {z : Bool} {ps : List Pr} : ∀ p ∈ fullOf z ps, emp z p = false := fun p hp => by simpa using (List.mem_filter.mp hp).2
theorem beg_union {z : Bool} {ps : List Pr} {ns : List Int} (h1 : ns.Pairwise (· < ·)) (h2 : ∀ k, k ∈ ns ↔ k ∈ begL (fullOf z ps)) : ns = (unionM z ps).map (·.1) := by
  have o := union_one z ps
  refine strict_uniq h1 ?_ fun k => ?_
  · rw [List.pairwise_map]
    exact (oneF_pw o).imp_of_mem fun ha hb h => by have := oneF_le o _ ha; omega
  · rw [h2, ← begL_one o, mem_begL (z := z) full_mem, mem_begL (z := z) (oneF_full o), cov_filter, cov_filter, cov_union, cov_union]
theorem end_union {z : Bool} {ps : List Pr} {ns : List Int} (h1 : ns.Pairwise (· < ·)) (h2 : ∀ k, k ∈ ns ↔ k ∈ endL (fullOf z ps)) : ns = (unionM z ps).map (·.2) := by
  have o := union_one z ps
  refine strict_uniq h1 ?_ fun k => ?_
  · rw [List.pairwise_map]
    exact (oneF_pw o).imp_of_mem fun ha hb h => by have := oneF_le o _ hb; omega
  · rw [h2, ← endL_one o, mem_endL (z := z) full_mem, mem_endL (z := z) (oneF_full o), cov_filter, cov_filter, cov_union, cov_union]
theorem hld_cov {z : Bool} {p : Pr} {m : Int} : hldB z p m = true ↔ covP z p (2 * m) := by
  unfold hldB covP
  cases z <;> simp <;> omega
theorem hld_any {z : Bool} {ps : List Pr} {m : Int} : (ps.filter fun p => hldB z p m) = [] ↔ ¬ cov z ps (2 * m) := by
  rw [filter_no]
  exact not_congr ⟨fun ⟨o, ho, e⟩ => ⟨o, ho, hld_cov.mp e⟩, fun ⟨o, ho, e⟩ => ⟨o, ho, hld_cov.mpr e⟩⟩
theorem hld_le1 {z : Bool} {l : List Pr} (h : oneF z l = true) (m : Int) : (l.filter fun p => hldB z p m).length ≤ 1 := by
  have pw := (oneF_pw h).filter fun p => hldB z p m
  have all : ∀ p ∈ l.filter (fun p => hldB z p m), covP z p (2 * m) := fun p hp => hld_cov.mp (List.mem_filter.mp hp).2
  match hf : l.filter (fun p => hldB z p m), pw, all with
  | [], _, _ => exact Nat.zero_le _
  | [_], _, _ => exact Nat.le_refl _
  | a :: b :: r, pw, all =>
    have g := (List.pairwise_cons.mp pw).1 b List.mem_cons_self
    obtain ⟨_, c2⟩ := all a List.mem_cons_self
    obtain ⟨c3, _⟩ := all b (List.mem_cons_of_mem _ List.mem_cons_self)
    exfalso
    split at c2 <;> omega
/-- a moment is held by one pair of the union, if some stretch holds it, else by none -/
theorem hld_union {z : Bool} {ps : List Pr} (m : Int) : (((unionM z ps).filter fun p => hldB z p m).length : Int) = if (!decide ((ps.filter fun p => hldB z p m) = [])) = true then 1 else 0 := by
  have l1 := hld_le1 (union_one z ps) m
  by_cases c : cov z ps (2 * m)
  · have h1 : (ps.filter fun p => hldB z p m) ≠ [] := fun e => hld_any.mp e c
    have h2 : ((unionM z ps).filter fun p => hldB z p m) ≠ [] := fun e => hld_any.mp e ((cov_union z ps _).mpr c)
    have : 0 < ((unionM z ps).filter fun p => hldB z p m).length := List.length_pos_iff.mpr h2
    rw [decide_eq_false h1, if_pos (show (!false) = true from rfl)]
    omega
  · have h1 : (ps.filter fun p => hldB z p m) = [] := hld_any.mpr c
    have h2 : ((unionM z ps).filter fun p => hldB z p m) = [] := hld_any.mpr fun e => c ((cov_union z ps _).mp e)
    rw [h1, h2]
    rfl
end Spk
namespace Spk
open PySem PySem.Spec PyProof.Rows L2
theorem kitLst (ds : List PyData) : kitB (tyN (.list ds)) "list" = some true := by
  show kitB "list" "list" = some true
  decide +kernel
theorem Pd.ofAt {H : Hp} : ∀ {ts : List Addr} {ps : List Pr}, ts.length = ps.length → (∀ (i : Nat) t p, ts[i]? = some t → ps[i]? = some p → H t = some (.tup [.int p.1, .int p.2])) → Pd H ts ps
  | [], [], _, _ => trivial
  | t :: ts, p :: ps, l, h => ⟨h 0 t p rfl rfl, Pd.ofAt (by simpa using l) fun i t' p' h1 h2 => h (i + 1) t' p' (by simpa using h1) (by simpa using h2)⟩
  | [], _ :: _, l, _ => by simp at l
  | _ :: _, [], l, _ => by simp at l
theorem upd_free {H : Hp} {a r : Addr} {o : HO} (h : (upd H a o) r = none) : H r = none := by
  by_cases e : r = a
  · rw [e, upd_same] at h
    cases h
  · rwa [upd_ne e] at h
theorem emp_full {z : Bool} {p : Pr} (h : p.1 < p.2 ∨ z = true) (le : p.1 ≤ p.2) : emp z p = false := by
  unfold emp
  rcases h with h | h
  · cases z <;> simp <;> omega
  · subst h; simp; omega
theorem emp_not {z : Bool} {p : Pr} (h : ¬ p.1 < p.2) (hz : ¬ z = true) : emp z p = true := by
  have hz : z = false := by simpa using hz
  subst hz
  unfold emp
  simp; omega
abbrev bgs (F : List Pr) (i : Nat) : List Int := ((F.take i).filter fun p => uncB F p.1).map (·.1)
abbrev ens (F : List Pr) (i : Nat) : List Int := ((F.take i).filter fun p => uncE F p.2).map (·.2)
theorem bgs_len {F : List Pr} {i : Nat} : (bgs F i).length ≤ F.length := by
  rw [List.length_map]; exact Nat.le_trans (List.length_filter_le ..) (List.length_take_le' ..)
theorem ens_len {F : List Pr} {i : Nat} : (ens F i).length ≤ F.length := by
  rw [List.length_map]; exact Nat.le_trans (List.length_filter_le ..) (List.length_take_le' ..)
theorem bgs_yes {F : List Pr} {i : Nat} {p : Pr} (h : F[i]? = some p) (c : uncB F p.1 = true) : bgs F (i + 1) = bgs F i ++ [p.1] := by
  unfold bgs
  rw [take_more h, List.filter_append, List.filter_cons_of_pos (p := fun p : Pr => uncB F p.1) c, List.map_append]; rfl
theorem bgs_no {F : List Pr} {i : Nat} {p : Pr} (h : F[i]? = some p) (c : ¬ uncB F p.1 = true) : bgs F (i + 1) = bgs F i := by
  unfold bgs
  rw [take_more h, List.filter_append, List.filter_cons_of_neg (p := fun p : Pr => uncB F p.1) c, List.filter_nil, List.append_nil]
theorem ens_yes {F : List Pr} {i : Nat} {p : Pr} (h : F[i]? = some p) (c : uncE F p.2 = true) : ens F (i + 1) = ens F i ++ [p.2] := by
  unfold ens
  rw [take_more h, List.filter_append, List.filter_cons_of_pos (p := fun p : Pr => uncE F p.2) c, List.map_append]; rfl
theorem ens_no {F : List Pr} {i : Nat} {p : Pr} (h : F[i]? = some p) (c : ¬ uncE F p.2 = true) : ens F (i + 1) = ens F i := by
  unfold ens
  rw [take_more h, List.filter_append, List.filter_cons_of_neg (p := fun p : Pr => uncE F p.2) c, List.filter_nil, List.append_nil]
/-- a filter in a comprehension: one more pair is taken -/
theorem keep_more {H0 H4 : Hp} {D t : Addr} {us : List Addr} {f : Pr → Bool} {p : Pr} {i : Nat} {ps : List Pr} (ss : Same H0 H4) (nD : H0 D = none) (hD : H4 D = some (.lst (us.map V.ref))) (pu : Pd H4 us ((ps.take i).filter f)) (et : H4 t = some (.tup [.int p.1, .int p.2])) (hp : ps[i]? = some p) (c : f p = true) :
    ∃ us', Same H0 (upd H4 D (.lst (us.map V.ref ++ [.ref t]))) ∧ (upd H4 D (.lst (us.map V.ref ++ [.ref t]))) D = some (.lst (us'.map V.ref)) ∧ Pd (upd H4 D (.lst (us.map V.ref ++ [.ref t]))) us' ((ps.take (i + 1)).filter f) := by
  have nDt : D ≠ t := ne_of hD et (fun z => nomatch z)
  refine ⟨us ++ [t], fun b o hb => by rw [upd_ne (ne_of_none hb nD)]; exact ss _ _ hb, by rw [upd_same, List.map_append]; rfl, ?_⟩
  rw [take_more hp, List.filter_append, List.filter_cons_of_pos c]
  refine Pd.app (Pd.kp (Kp.at_ (p := D)) (fun xs z => by rw [hD] at z; cases z) pu) ⟨?_, trivial⟩
  rw [upd_ne (Ne.symm nDt)]
  exact et
theorem keep_less {H4 : Hp} {us : List Addr} {f : Pr → Bool} {p : Pr} {i : Nat} {ps : List Pr} (pu : Pd H4 us ((ps.take i).filter f)) (hp : ps[i]? = some p) (c : f p = false) : Pd H4 us ((ps.take (i + 1)).filter f) := by
  rw [take_more hp, List.filter_append, List.filter_cons_of_neg (by rw [c]; decide), List.filter_nil, List.append_nil]
  exact pu
theorem filt_len {f : Pr → Bool} {ps : List Pr} {i : Nat} : ((ps.take i).filter f).length ≤ ps.length := Nat.le_trans (List.length_filter_le ..) (List.length_take_le' ..)
end Spk
namespace Spk
open PySem PySem.Spec PyProof.Rows L2
theorem iteTe {c : Bool} {A B : Prop} (h : c = true) (a : A) : if c = true then A else B := by
  rw [h, if_pos rfl]; exact a
theorem cut_last (xs : List V) (x : V) : cutV (xs ++ [x]) none (some (-1)) = xs := by
  unfold cutV HT.sIx
  simp
  rw [show (-1 + ((xs.length : Int) + 1)).toNat = xs.length from by omega, List.take_left]
theorem eqv_eq {l k : List Pr} (e : l = k) : PyData.eqv (.list (l.map prD)) (.list (k.map prD)) = true := by rw [eqvPs, decide_eq_true e]
theorem eqv_neq {l k : List Pr} (e : l = k) : (!PyData.eqv (.list (l.map prD)) (.list (k.map prD))) = false := by rw [eqv_eq e]; rfl
end Spk

/-! the text of spanloops_k03_whole_unions -/
namespace Spk
open PySem PySem.Spec PyProof.Rows L2
def topS (i : Nat) : Stmt := PySem.Challenge.pw_spanloops_k03_whole_unions.main.body.getD i (.Pass ⟨0, 0, 0, 0⟩)
structure Blt (mg : Str → Option Value) : Prop where
  b_abs : mg "abs" = none
  b_bool : mg "bool" = none
  b_enumerate : mg "enumerate" = none
  b_int : mg "int" = none
  b_isinstance : mg "isinstance" = none
  b_len : mg "len" = none
  b_list : mg "list" = none
  b_max : mg "max" = none
  b_min : mg "min" = none
  b_range : mg "range" = none
  b_reversed : mg "reversed" = none
  b_set : mg "set" = none
  b_sorted : mg "sorted" = none
  b_tuple : mg "tuple" = none
  b_zip : mg "zip" = none
structure Txt (K : PySem.W.Frag) (mg : Str → Option Value) : Prop where
  g_FIRST : ∃ t, mg "FIRST" = some (.int (-10000000000000000000000000000000) t)
  g_LAST : ∃ t, mg "LAST" = some (.int (10000000000000000000000000000000) t)
  g_FAR : ∃ t, mg "FAR" = some (.int (1000000000000000000000000000000) t)
  ends : EndsT K mg
end Spk
namespace Spk
open PySem PySem.Spec PyProof.Rows L2

local macro_rules | `(tactic| walk_at "ne") => `(tactic| first | assumption | exact Ne.symm (by assumption) | exact ne_of_none (by walk_at "hp") (by assumption) | exact Ne.symm (ne_of_none (by walk_at "hp") (by assumption)))
local macro_rules | `(tactic| walk_at "hp") => `(tactic| first | assumption | exact upd_same | (refine Eq.trans (upd_ne ?_) ?_; (focus walk_at "ne"); walk_at "hp"))
local macro_rules | `(tactic| walk_at "fact") => `(tactic| first | rfl | assumption | exact SqL.hp (by walk_at "hp") | exact SqT.hp (by walk_at "hp") | walk_at "hp" | exact Or.inl (SqL.hp (by walk_at "hp")) | exact Or.inr (SqT.hp (by walk_at "hp")) | omega | decide | exact Nat.le_of_ble_eq_true rfl | exact lgDiv (by omega) (by omega) | exact Or.inl ⟨by omega, by omega⟩ | exact Or.inr ⟨by omega, by omega⟩ | exact ⟨by omega, by omega⟩ | exact ⟨by omega, by omega, by omega⟩)
local macro_rules | `(tactic| walk_at "vc1") => `(tactic| first
  | (refine And.intro ?_ ?_; (focus walk_at "fact"))
  | refine iteF ?_
  | refine iteT ?_
  | refine ite2 (fun _ => ?_) (fun _ => ?_)
  | apply Exists.intro
  | (refine Or.inl ?_; apply Exists.intro; refine And.intro rfl ?_)
  | (refine Or.inr ?_; apply Exists.intro; refine And.intro rfl ?_))
local macro_rules | `(tactic| walk_at "vc") => `(tactic| repeat' (walk_at "vc1"))
/-! is_number -/
abbrev s_is_number : Stmt := topS 8
abbrev sc_is_number_N : List Str := ["value"]
theorem sc_is_number : FnScope sc_is_number_N ["value"] (defScope s_is_number) := ⟨rfl, rfl, rfl, by decide +kernel, rfl, by decide +kernel, by decide +kernel⟩
def sp_is_number (K : PySem.W.Frag) : Sp := fun vs H Q _ => ∃ (v : V) (d : PyData), vs = [v] ∧ Dp K H v d ∧ Q (.bl (isNum d)) H
section
variable {P : Program} {w : World} {K : PySem.W.Frag} {mg : Str → Option Value} {bh : Heap}
theorem ok_is_number {f : Addr} {fd : FuncData}  (B : Blt mg) (T : Txt K mg)  (F : Fun K "is_number" "is_number" s_is_number f fd) : FnOk P w K mg bh CX0 1 f fd ["value"] (sp_is_number K) := by
  refine F.ok sc_is_number (fun vs H Q E h => ?_) (fun cdv A outer s H vs Q E hr h => ?_)
  · obtain ⟨v, d, rfl, _⟩ := h
    rfl
  · obtain ⟨v, d, rfl, dp, q⟩ := h
    refine ⟨_, (pss_one (ps_ret (pe_and (pe_callB call_isi (by rfl) B.b_isinstance (by decide +kernel) (pa_cons (pv 0) (pa_cons (pe_bltn (v := .ty "int") (by rfl) B.b_int (by decide +kernel) rfl) pa_nil))) (pe_one (pe_not (pe_callB call_isi (by rfl) B.b_isinstance (by decide +kernel) (pa_cons (pv 0) (pa_cons (pe_bltn (v := .ty "bool") (by rfl) B.b_bool (by decide +kernel) rfl) pa_nil)))))))), ?_⟩
    refine ⟨v, rfl, _, _, _, _, _, rfl, .ty _, dpTy dp, kit_ty (kitInt d), _, rfl, ?_⟩
    refine ite2 (fun c => ?_) (fun c => ?_)
    · refine ⟨v, rfl, _, _, _, _, _, rfl, .ty _, dpTy dp, kit_ty (kitBool d), _, rfl, ?_⟩
      rw [isNum_eq, c] at q
      exact q
    · rw [isNum_eq, Bool.eq_false_iff.mpr c] at q
      exact q
end
/-! is_edge -/
abbrev s_is_edge : Stmt := topS 9
abbrev sc_is_edge_N : List Str := ["value"]
theorem sc_is_edge : FnScope sc_is_edge_N ["value"] (defScope s_is_edge) := ⟨rfl, rfl, rfl, by decide +kernel, rfl, by decide +kernel, by decide +kernel⟩
def sp_is_edge (K : PySem.W.Frag) : Sp := fun vs H Q _ => ∃ (v : V) (d : PyData), vs = [v] ∧ Dp K H v d ∧ ∀ H', Same H H' → Q (.bl (isEdge d)) H'
section
variable {P : Program} {w : World} {K : PySem.W.Frag} {mg : Str → Option Value} {bh : Heap}
theorem ok_is_edge {f : Addr} {fd : FuncData} {f_is_number : Addr} {fd_is_number : FuncData} (B : Blt mg) (T : Txt K mg) (R_is_number : Rdy P w K mg bh "is_number" 1 ["value"] (sp_is_number K) f_is_number fd_is_number) (F : Fun K "is_edge" "is_edge" s_is_edge f fd) : FnOk P w K mg bh CX0 2 f fd ["value"] (sp_is_edge K) := by
  refine F.ok sc_is_edge (fun vs H Q E h => ?_) (fun cdv A outer s H vs Q E hr h => ?_)
  · obtain ⟨v, d, rfl, _⟩ := h
    rfl
  · obtain ⟨v, d, rfl, dp, q⟩ := h
    refine ⟨_, (pss_one (ps_ret (pe_and (pe_rdy R_is_number hr (by decide) (by rfl) (pa_cons (pv 0) pa_nil)) (pe_one (pe_or (pe_chain op_le op_le (pe_un un_neg (pe_globI T.g_FAR (by rfl))) (pv 0) (pe_globI T.g_FAR (by rfl))) (pe_one (pe_cmpR op_in_seq (pv 0) (pe_tup (pa_cons (pe_globI T.g_FIRST (by rfl)) (pa_cons (pe_globI T.g_LAST (by rfl)) pa_nil))) (by rfl)))))))), ?_⟩
    refine ⟨v, rfl, v, d, rfl, dp, _, rfl, ?_⟩
    refine ite2 (fun c => ?_) (fun c => ?_)
    · obtain ⟨i, rfl, rfl⟩ := int_of dp c
      · have fin : ∀ b, isEdge (.int i) = b → ∀ H', Same H H' → Q (.bl b) H' := fun b e => e ▸ q
        refine ⟨_, rfl, _, rfl, _, _, rfl, rfl, _, rfl, ?_⟩
        refine ite2 (fun c1 => ?_) (fun c1 => ?_)
        · refine ⟨_, _, rfl, rfl, _, rfl, ?_⟩
          refine ite2 (fun c2 => ?_) (fun c2 => ?_)
          · refine fin true ?_ H (Same.refl H)
            simp only [decide_eq_true_eq] at c1 c2
            simp [isEdge, edgeI, c1, c2]
          · refine ⟨_, rfl, (by show 2 ≤ sizeLine; decide), fun p hp => ?_⟩
            refine ⟨p, _, rfl, .inr (SqT.hp upd_same), rfl, rfl, ?_⟩
            refine fin _ ?_ _ (Same.new hp)
            simp only [decide_eq_true_eq] at c1 c2
            show edgeI i = inV (.int i) [.int (-10000000000000000000000000000000), .int 10000000000000000000000000000000]
            rw [inV2]
            simp [edgeI, c1, c2]
        · refine ⟨_, rfl, iteF ⟨_, rfl, (by show 2 ≤ sizeLine; decide), fun p hp => ?_⟩⟩
          refine ⟨p, _, rfl, .inr (SqT.hp upd_same), rfl, rfl, ?_⟩
          refine fin _ ?_ _ (Same.new hp)
          simp only [decide_eq_true_eq] at c1
          show edgeI i = inV (.int i) [.int (-10000000000000000000000000000000), .int 10000000000000000000000000000000]
          rw [inV2]
          simp [edgeI, c1]
    · rw [isEdge_not c] at q
      exact q H (Same.refl H)
end
/-! is_pair -/
abbrev s_is_pair : Stmt := topS 10
abbrev sc_is_pair_N : List Str := ["value"]
theorem sc_is_pair : FnScope sc_is_pair_N ["value"] (defScope s_is_pair) := ⟨rfl, rfl, rfl, by decide +kernel, rfl, by decide +kernel, by decide +kernel⟩
def sp_is_pair (K : PySem.W.Frag) : Sp := fun vs H Q _ => ∃ (v : V) (d : PyData), vs = [v] ∧ Dp K H v d ∧ ∀ H', Same H H' → Q (.bl (isPair d)) H'
section
variable {P : Program} {w : World} {K : PySem.W.Frag} {mg : Str → Option Value} {bh : Heap}
theorem ok_is_pair {f : Addr} {fd : FuncData} {f_is_edge : Addr} {fd_is_edge : FuncData} (B : Blt mg) (T : Txt K mg) (R_is_edge : Rdy P w K mg bh "is_edge" 2 ["value"] (sp_is_edge K) f_is_edge fd_is_edge) (F : Fun K "is_pair" "is_pair" s_is_pair f fd) : FnOk P w K mg bh CX0 3 f fd ["value"] (sp_is_pair K) := by
  refine F.ok sc_is_pair (fun vs H Q E h => ?_) (fun cdv A outer s H vs Q E hr h => ?_)
  · obtain ⟨v, d, rfl, _⟩ := h
    rfl
  · obtain ⟨v, d, rfl, dp, q⟩ := h
    refine ⟨_, (pss_one (ps_ret (pe_and (pe_callB call_isi (by rfl) B.b_isinstance (by decide +kernel) (pa_cons (pv 0) (pa_cons (pe_bltn (v := .ty "tuple") (by rfl) B.b_tuple (by decide +kernel) rfl) pa_nil))) (pe_and (pe_cmpR op_eq (pe_callB call_len_seq (by rfl) B.b_len (by decide +kernel) (pa_cons (pv 0) pa_nil)) pe_int (nomark _)) (pe_and (pe_rdy R_is_edge hr (by decide) (by rfl) (pa_cons (pe_ix ix_tup (pv 0) pe_int (fun _ _ => rfl)) pa_nil)) (pe_one (pe_rdy R_is_edge hr (by decide) (by rfl) (pa_cons (pe_ix ix_tup (pv 0) pe_int (fun _ _ => rfl)) pa_nil)))))))), ?_⟩
    refine ⟨v, rfl, _, _, _, _, _, rfl, .ty _, dpTy dp, kit_ty (kitTup d), _, rfl, ?_⟩
    refine ite2 (fun c => ?_) (fun c => ?_)
    · obtain ⟨a, xs, ds, rfl, rfl, sq, da⟩ := tup_of dp c
      refine ⟨_, rfl, a, xs, rfl, .inr sq, rfl, _, rfl, ?_⟩
      refine ite2 (fun c1 => ?_) (fun c1 => ?_)
      · have l2 : (xs.length : Int) = 2 := V.int.inj (of_decide_eq_true c1)
        obtain ⟨x, y, d1, d2, rfl, rfl, h1, h2⟩ := dpAll2 da (by omega)
        refine ⟨_, rfl, a, _, 0, x, rfl, rfl, sq, rfl, x, d1, rfl, h1, fun H1 s1 => ?_⟩
        refine ⟨_, rfl, ?_⟩
        refine ite2 (fun c2 => ?_) (fun c2 => ?_)
        · refine ⟨_, rfl, a, _, 1, y, rfl, rfl, sameT s1 sq, rfl, y, d2, rfl, sameD s1 d2 h2, fun H2 s2 => ?_⟩
          have z := q H2 (s1.trans s2)
          have e : isPair (.tuple [d1, d2]) = isEdge d2 := by show (isEdge d1 && isEdge d2) = _; rw [c2, Bool.true_and]
          rw [e] at z
          exact z
        · have z := q H1 s1
          have e : isPair (.tuple [d1, d2]) = false := by show (isEdge d1 && isEdge d2) = _; rw [Bool.eq_false_iff.mpr c2, Bool.false_and]
          rw [e] at z
          exact z
      · have ne : ds.length ≠ 2 := fun z => c1 (decide_eq_true (by rw [dpAll_len da, z]; rfl))
        rw [isPair_len ne] at q
        exact q H (Same.refl H)
    · rw [isPair_not c] at q
      exact q H (Same.refl H)
end
/-! is_stretch -/
abbrev s_is_stretch : Stmt := topS 11
abbrev sc_is_stretch_N : List Str := ["value"]
theorem sc_is_stretch : FnScope sc_is_stretch_N ["value"] (defScope s_is_stretch) := ⟨rfl, rfl, rfl, by decide +kernel, rfl, by decide +kernel, by decide +kernel⟩
def sp_is_stretch (K : PySem.W.Frag) : Sp := fun vs H Q _ => ∃ (v : V) (d : PyData), vs = [v] ∧ Dp K H v d ∧ ∀ H', Same H H' → Q (.bl (isStr d)) H'
section
variable {P : Program} {w : World} {K : PySem.W.Frag} {mg : Str → Option Value} {bh : Heap}
theorem ok_is_stretch {f : Addr} {fd : FuncData} {f_is_pair : Addr} {fd_is_pair : FuncData} (B : Blt mg) (T : Txt K mg) (R_is_pair : Rdy P w K mg bh "is_pair" 3 ["value"] (sp_is_pair K) f_is_pair fd_is_pair) (F : Fun K "is_stretch" "is_stretch" s_is_stretch f fd) : FnOk P w K mg bh CX0 4 f fd ["value"] (sp_is_stretch K) := by
  refine F.ok sc_is_stretch (fun vs H Q E h => ?_) (fun cdv A outer s H vs Q E hr h => ?_)
  · obtain ⟨v, d, rfl, _⟩ := h
    rfl
  · obtain ⟨v, d, rfl, dp, q⟩ := h
    refine ⟨_, (pss_one (ps_ret (pe_and (pe_rdy R_is_pair hr (by decide) (by rfl) (pa_cons (pv 0) pa_nil)) (pe_and (pe_cmpR op_le (pe_ix ix_tup (pv 0) pe_int (fun _ _ => rfl)) (pe_ix ix_tup (pv 0) pe_int (fun _ _ => rfl)) (nomark _)) (pe_and (pe_cmpR op_lt (pe_ix ix_tup (pv 0) pe_int (fun _ _ => rfl)) (pe_globI T.g_LAST (by rfl)) (nomark _)) (pe_one (pe_cmpR op_gt (pe_ix ix_tup (pv 0) pe_int (fun _ _ => rfl)) (pe_globI T.g_FIRST (by rfl)) (nomark _)))))))), ?_⟩
    refine ⟨v, rfl, v, d, rfl, dp, fun H1 s1 => ?_⟩
    refine ⟨_, rfl, ?_⟩
    refine ite2 (fun c => ?_) (fun c => ?_)
    · obtain ⟨a, b, rfl, ea, eb⟩ := pair_of c
      obtain ⟨p, rfl, sq⟩ := dpPr (sameD s1 _ dp)
      have fin : ∀ z, strP (a, b) = z → Q (.bl z) H1 := fun z e => e ▸ q H1 s1
      refine ⟨_, rfl, p, _, 0, _, rfl, rfl, sq, rfl, _, rfl, p, _, 1, _, rfl, rfl, sq, rfl, _, _, rfl, rfl, _, rfl, ?_⟩
      refine ite2 (fun c1 => ?_) (fun c1 => ?_)
      · refine ⟨_, rfl, p, _, 0, _, rfl, rfl, sq, rfl, _, _, rfl, rfl, _, rfl, ?_⟩
        refine ite2 (fun c2 => ?_) (fun c2 => ?_)
        · refine ⟨_, rfl, p, _, 1, _, rfl, rfl, sq, rfl, _, _, rfl, rfl, fin _ ?_⟩
          unfold strP; rw [ea, eb, c1, c2]; rfl
        · refine fin _ ?_
          unfold strP; rw [ea, eb, c1, Bool.eq_false_iff.mpr c2]; rfl
      · refine fin _ ?_
        unfold strP; rw [ea, eb, Bool.eq_false_iff.mpr c1]; rfl
    · rw [isStr_not c] at q
      exact q H1 s1
end
/-! check_ends -/
abbrev s_check_ends : Stmt := topS 12
abbrev sc_check_ends_N : List Str := ["ends"]
theorem sc_check_ends : FnScope sc_check_ends_N ["ends"] (defScope s_check_ends) := ⟨rfl, rfl, rfl, by decide +kernel, rfl, by decide +kernel, by decide +kernel⟩
def sp_check_ends (K : PySem.W.Frag) : Sp := fun vs H Q _ => ∃ z : Bool, vs = [endsV z] ∧ ∀ H', Same H H' → Q .non H'
section
variable {P : Program} {w : World} {K : PySem.W.Frag} {mg : Str → Option Value} {bh : Heap}
theorem ok_check_ends {f : Addr} {fd : FuncData}  (B : Blt mg) (T : Txt K mg)  (F : Fun K "check_ends" "check_ends" s_check_ends f fd) : FnOk P w K mg bh CX0 1 f fd ["ends"] (sp_check_ends K) := by
  refine F.ok sc_check_ends (fun vs H Q E h => ?_) (fun cdv A outer s H vs Q E hr h => ?_)
  · obtain ⟨z, rfl, _⟩ := h
    rfl
  · obtain ⟨z, rfl, q⟩ := h
    refine ⟨_, (pss_one (ps_if (pt_cmpR op_notIn_seq (pv 0) (pe_tup (pa_cons (pe_half T.ends (by rfl)) (pa_cons (pe_shut T.ends (by rfl)) pa_nil))) (by rfl))
      (pss_one ps_never)
      pss_nil)), ?_⟩
    refine ⟨_, rfl, (by show 2 ≤ sizeLine; decide), fun p hp => ?_⟩
    refine ⟨p, _, rfl, .inr (SqT.hp upd_same), (by cases z <;> rfl), rfl, _, rfl, ?_⟩
    have e : (if true = true then !inV (endsV z) [.str "half", .str "shut"] else inV (endsV z) [.str "half", .str "shut"]) = false := by cases z <;> decide +kernel
    rw [e]
    exact iteF (q _ (Same.new hp))
end
/-! check_stretches -/
abbrev s_check_stretches : Stmt := topS 13
abbrev sc_check_stretches_N : List Str := ["spans", "index", "span"]
theorem sc_check_stretches : FnScope sc_check_stretches_N ["spans"] (defScope s_check_stretches) := ⟨rfl, rfl, rfl, by decide +kernel, rfl, by decide +kernel, by decide +kernel⟩
def sp_check_stretches (K : PySem.W.Frag) : Sp := fun vs H Q _ => ∃ (a : Addr) (xs : List V) (ds : List PyData), vs = [.ref a] ∧ Sq K H a xs ∧ DpAll K H xs ds ∧ (∀ d ∈ ds, isStr d = true) ∧ ∀ H', Same H H' → Q .non H'
section
variable {P : Program} {w : World} {K : PySem.W.Frag} {mg : Str → Option Value} {bh : Heap}
theorem ok_check_stretches {f : Addr} {fd : FuncData} {f_is_stretch : Addr} {fd_is_stretch : FuncData} (B : Blt mg) (T : Txt K mg) (R_is_stretch : Rdy P w K mg bh "is_stretch" 4 ["value"] (sp_is_stretch K) f_is_stretch fd_is_stretch) (F : Fun K "check_stretches" "check_stretches" s_check_stretches f fd) : FnOk P w K mg bh CX0 5 f fd ["spans"] (sp_check_stretches K) := by
  refine F.ok sc_check_stretches (fun vs H Q E h => ?_) (fun cdv A outer s H vs Q E hr h => ?_)
  · obtain ⟨a, xs, ds, rfl, _⟩ := h
    rfl
  · obtain ⟨a, xs, ds, rfl, sq, da, hd, q⟩ := h
    refine ⟨_, (pss_one (ps_for PassesOwn.never rfl (pi_en (by rfl) B.b_enumerate (pa_cons (pv 0) pa_nil)) (pg_tup (by rfl) (pgs_cons (pg_name (i := 1) sc_check_stretches.nd rfl (Or.inl rfl)) (pgs_cons (pg_name (i := 2) sc_check_stretches.nd rfl (Or.inl rfl)) pgs_nil)))
      (pss_one (ps_if (pt_not (pt_val (pe_rdy R_is_stretch hr (by decide) (by rfl) (pa_cons (pv 2) pa_nil))))
      (pss_one ps_never)
      pss_nil)))), ?_⟩
    refine ⟨_, rfl, a, xs, rfl, sq, fun J wk => ?_⟩
    refine for_it wk (fun i σ H' => (∃ y z, σ = [some (.ref a), y, z]) ∧ Same H H') ⟨⟨none, none, rfl⟩, Same.refl H⟩ (fun i σ H' _ h => sameK h.2) ?_ ?_
    · rintro i x σ H1 H2 hi ⟨⟨y, z, rfl⟩, s1⟩ ⟨T, x1, x2, rfl, hT, rfl, e1, e2⟩
      obtain ⟨d, hm, dp⟩ := dpAll_get da e2
      have s2 : Same H (upd H1 T (.tup [x1, x2])) := s1.trans (Same.new hT)
      refine ⟨T, _, rfl, SqT.hp upd_same, rfl, x1, _, rfl, x2, _, rfl, rfl, ?_⟩
      refine ⟨x2, rfl, x2, d, rfl, sameD s2 d dp, fun H3 s3 => ⟨_, rfl, ?_⟩⟩
      rw [hd d hm]
      exact iteF ⟨⟨_, _, rfl⟩, s2.trans s3⟩
    · rintro σ H' ⟨⟨y, z, rfl⟩, s1⟩
      exact q H' s1
end
/-! is_empty -/
abbrev s_is_empty : Stmt := topS 14
abbrev sc_is_empty_N : List Str := ["pair", "ends", "begin", "end"]
theorem sc_is_empty : FnScope sc_is_empty_N ["pair", "ends"] (defScope s_is_empty) := ⟨rfl, rfl, rfl, by decide +kernel, rfl, by decide +kernel, by decide +kernel⟩
def sp_is_empty (K : PySem.W.Frag) : Sp := fun vs H Q _ => ∃ (t : Addr) (b e : Int) (z : Bool), vs = [.ref t, endsV z] ∧ SqT K H t [.int b, .int e] ∧ ∀ H', Same H H' → Q (.bl (emp z (b, e))) H'
section
variable {P : Program} {w : World} {K : PySem.W.Frag} {mg : Str → Option Value} {bh : Heap}
theorem ok_is_empty {f : Addr} {fd : FuncData} {f_check_ends : Addr} {fd_check_ends : FuncData} (B : Blt mg) (T : Txt K mg) (R_check_ends : Rdy P w K mg bh "check_ends" 1 ["ends"] (sp_check_ends K) f_check_ends fd_check_ends) (F : FunD K "is_empty" "is_empty" (defArgs s_is_empty) (defBody s_is_empty) (defScope s_is_empty) [.str "half"] [] f fd) : FnOk P w K mg bh CX0 2 f fd ["pair", "ends"] (sp_is_empty K) := by
  refine okD F sc_is_empty (fun vs H Q E h => ?_) (fun cdv A outer s H vs Q E hr h => ?_)
  · obtain ⟨t, b, e, z, rfl, _⟩ := h
    rfl
  · obtain ⟨t, b, e, z, rfl, sq, q⟩ := h
    refine ⟨_, (pss_cons (ps_expr (pe_rdy R_check_ends hr (by decide) (by rfl) (pa_cons (pv 1) pa_nil)))
      (pss_cons (ps_asg (pv 0) (pg_tup (by rfl) (pgs_cons (pg_name (i := 2) sc_is_empty.nd rfl (Or.inl rfl)) (pgs_cons (pg_name (i := 3) sc_is_empty.nd rfl (Or.inl rfl)) pgs_nil))))
      (pss_cons (ps_if (pt_cmpR op_eq (pv 1) (pe_shut T.ends (by rfl)) (nomark _))
      (pss_one (ps_ret (pe_cmpR op_gt (pv 2) (pv 3) (nomark _))))
      pss_nil)
      (pss_one (ps_ret (pe_cmpR op_ge (pv 2) (pv 3) (nomark _))))))), ?_⟩
    refine ⟨_, rfl, z, rfl, fun H1 s1 => ?_⟩
    refine ⟨_, rfl, t, _, rfl, sameT s1 sq, rfl, _, _, rfl, _, _, rfl, rfl, ?_⟩
    refine ⟨_, rfl, endsV_scal z, _, rfl, ?_⟩
    rw [endsV_shut]
    have z1 := q H1 s1
    cases z with
    | true => exact iteT ⟨_, rfl, _, rfl, _, _, rfl, rfl, z1⟩
    | false => exact iteF ⟨_, rfl, _, rfl, _, _, rfl, rfl, z1⟩
end
/-! join_sorted -/
abbrev s_join_sorted : Stmt := topS 15
abbrev sc_join_sorted_N : List Str := ["spans", "rows", "low", "high", "begin", "end"]
theorem sc_join_sorted : FnScope sc_join_sorted_N ["spans"] (defScope s_join_sorted) := ⟨rfl, rfl, rfl, by decide +kernel, rfl, by decide +kernel, by decide +kernel⟩
def sp_join_sorted (K : PySem.W.Frag) : Sp := fun vs H Q _ => ∃ (a : Addr) (ts : List Addr) (ps : List Pr), vs = [.ref a] ∧ SqL K H a (ts.map V.ref) ∧ Pd H ts ps ∧ ps.length ≤ 1000 ∧ ∀ r us H', H r = none → H' r = some (.lst (us.map V.ref)) → Pd H' us (joinM ps) → Same H H' → Q (.ref r) H'
section
variable {P : Program} {w : World} {K : PySem.W.Frag} {mg : Str → Option Value} {bh : Heap}
theorem ok_join_sorted {f : Addr} {fd : FuncData}  (B : Blt mg) (T : Txt K mg)  (F : Fun K "join_sorted" "join_sorted" s_join_sorted f fd) : FnOk P w K mg bh CX0 1 f fd ["spans"] (sp_join_sorted K) := by
  refine F.ok sc_join_sorted (fun vs H Q E h => ?_) (fun cdv A outer s H vs Q E hr h => ?_)
  · obtain ⟨a, ts, ps, rfl, _⟩ := h
    rfl
  · obtain ⟨a, ts, ps, rfl, sq, pd, hlen, q⟩ := h
    refine ⟨_, (pss_cons (ps_if (pt_not (pt_truth (pv 0) (by intro _; rfl)))
      (pss_one (ps_ret (pe_lst pa_nil)))
      pss_nil)
      (pss_cons (ps_set (i := 1) sc_join_sorted.nd rfl (Or.inl rfl) (pe_lst pa_nil))
      (pss_cons (ps_asg (pe_ix ix_list (pv 0) pe_int (fun _ _ => rfl)) (pg_tup (by rfl) (pgs_cons (pg_name (i := 2) sc_join_sorted.nd rfl (Or.inl rfl)) (pgs_cons (pg_name (i := 3) sc_join_sorted.nd rfl (Or.inl rfl)) pgs_nil))))
      (pss_cons (ps_for PassesOwn.never rfl (pi_list (pv 0)) (pg_tup (by rfl) (pgs_cons (pg_name (i := 4) sc_join_sorted.nd rfl (Or.inl rfl)) (pgs_cons (pg_name (i := 5) sc_join_sorted.nd rfl (Or.inl rfl)) pgs_nil)))
      (pss_one (ps_if (pt_cmpR op_gt (pv 4) (pv 3) (nomark _))
      (pss_cons (ps_expr (pe_bm PySem.F.plainAttrs_list PySem.F.slot_list_append PySem.F.type_list_append mt_append (pv 1) (pa_cons (pe_tup (pa_cons (pv 2) (pa_cons (pv 3) pa_nil))) pa_nil)))
      (pss_one (ps_par (i := 2) (j := 3) (by rfl) sc_join_sorted.nd rfl rfl (by decide) rfl rfl (pa_cons (pv 4) (pa_cons (pv 5) pa_nil)) (by rfl))))
      (pss_one (ps_set (i := 3) sc_join_sorted.nd rfl (Or.inl rfl) (pe_callB (call_max2 rfl) (by rfl) B.b_max (by decide +kernel) (pa_cons (pv 3) (pa_cons (pv 5) pa_nil))))))))
      (pss_cons (ps_expr (pe_bm PySem.F.plainAttrs_list PySem.F.slot_list_append PySem.F.type_list_append mt_append (pv 1) (pa_cons (pe_tup (pa_cons (pv 2) (pa_cons (pv 3) pa_nil))) pa_nil)))
      (pss_one (ps_ret (pv 1)))))))), ?_⟩
    refine ⟨_, rfl, _, .inl ⟨_, sq, rfl⟩, ?_⟩
    cases ts with
    | nil =>
      cases ps with
      | cons _ _ => exact pd.elim
      | nil =>
        refine iteT ⟨Nat.zero_le _, fun r hr' => ?_⟩
        exact q r [] _ hr' upd_same trivial (Same.new hr')
    | cons t0 ts =>
      cases ps with
      | nil => exact pd.elim
      | cons p0 ps =>
        refine iteF ⟨Nat.zero_le _, fun r nr => ?_⟩
        have sr : Same H (upd H r (.lst [])) := Same.new nr
        refine ⟨_, rfl, a, _, 0, _, rfl, rfl, sr.seq sq, atI_nat (j := 0) rfl, t0, _, rfl, SqT.hp (sr _ _ pd.1), rfl, _, _, rfl, _, _, rfl, rfl, ?_⟩
        refine ⟨_, rfl, a, rfl, ⟨_, sr.seq sq⟩, ?_⟩
        refine for_list (K := K) (a := a) (xs := (t0 :: ts).map V.ref) (fun i σ H' => ∃ y4 y5 us, σ = [some (.ref a), some (.ref r), some (.int (((p0 :: ps).take i).foldl stepJ ([], p0)).2.1), some (.int (((p0 :: ps).take i).foldl stepJ ([], p0)).2.2), y4, y5] ∧ Same H H' ∧ H' r = some (.lst (us.map V.ref)) ∧ Pd H' us (((p0 :: ps).take i).foldl stepJ ([], p0)).1)
          ⟨none, none, [], rfl, sr, upd_same, trivial⟩ (fun i σ H' _ h => ?_) ?_ ?_
        · obtain ⟨_, _, _, _, s1, _⟩ := h
          exact s1.seq sq
        · rintro i x σ H1 hx ⟨y4, y5, us, rfl, s1, hr1, pu⟩
          obtain ⟨t, ht, rfl⟩ := map_get hx
          obtain ⟨p, hp, et⟩ := Pd.get pd ht
          have e := take_more hp
          have ll := stepJ_len0 ((p0 :: ps).take i) p0
          have li : ((p0 :: ps).take i).length ≤ 1000 := Nat.le_trans (List.length_take_le' ..) hlen
          have lu := pu.len
          generalize hS : ((p0 :: ps).take i).foldl stepJ ([], p0) = S at *
          have e2 : ((p0 :: ps).take (i + 1)).foldl stepJ ([], p0) = stepJ S p := by rw [e, List.foldl_append, hS]; rfl
          refine ⟨t, _, rfl, SqT.hp (s1 _ _ et), rfl, _, _, rfl, _, _, rfl, rfl, ?_⟩
          refine ⟨_, rfl, _, rfl, _, _, rfl, rfl, _, rfl, ?_⟩
          rw [e2]
          refine ite2 (fun c => ?_) (fun c => ?_)
          · have c' : S.2.2 < p.1 := of_decide_eq_true c
            have ej : stepJ S p = (S.1 ++ [S.2], p) := if_pos c'
            rw [ej]
            refine ⟨_, rfl, .inl ⟨rfl, _, SqL.hp hr1⟩, _, rfl, _, rfl, (by show 2 ≤ sizeLine; decide), fun T nT => ?_⟩
            have nrT : r ≠ T := ne_of_none hr1 nT
            refine ⟨r, _, _, rfl, rfl, (upd_ne nrT).trans hr1, ?_, ?_⟩
            · rw [List.length_map]
              exact small1000 (by omega)
            · refine ⟨_, rfl, _, rfl, _, _, rfl, ?_⟩
              refine ⟨_, _, us ++ [T], rfl, ?_, ?_, ?_⟩
              · intro b o hb
                rw [upd_ne (ne_of_none hb nr), upd_ne (ne_of_none (s1 _ _ hb) nT)]
                exact s1 _ _ hb
              · rw [upd_same, List.map_append]; rfl
              · have kp : Kp r H1 (upd (upd H1 T (.tup [.int S.2.1, .int S.2.2])) r (.lst (us.map V.ref ++ [.ref T]))) := (Kp.new nT).trans Kp.at_
                refine Pd.app (Pd.kp kp (fun xs z => by rw [hr1] at z; cases z) pu) ⟨?_, trivial⟩
                rw [upd_ne (Ne.symm nrT), upd_same]
          · have c' : ¬ S.2.2 < p.1 := fun z => c (decide_eq_true z)
            have ej : stepJ S p = (S.1, (S.2.1, if S.2.2 < p.2 then p.2 else S.2.2)) := if_neg c'
            rw [ej]
            exact ⟨_, rfl, _, rfl, _, _, rfl, _, _, us, rfl, s1, hr1, pu⟩
        · rintro σ H1 ⟨y4, y5, us, rfl, s1, hr1, pu⟩
          have ef : (p0 :: ps).take ((t0 :: ts).map V.ref).length = p0 :: ps := List.take_of_length_le (by rw [List.length_map, pd.len]; exact Nat.le_refl _)
          rw [ef] at pu ⊢
          have lu := pu.len
          have ll := stepJ_len0 (p0 :: ps) p0
          have ej : joinM (p0 :: ps) = ((p0 :: ps).foldl stepJ ([], p0)).1 ++ [((p0 :: ps).foldl stepJ ([], p0)).2] := (joinF_eq (p0 :: ps)).symm
          generalize (p0 :: ps).foldl stepJ ([], p0) = S at *
          refine ⟨_, rfl, .inl ⟨rfl, _, SqL.hp hr1⟩, _, rfl, _, rfl, (by show 2 ≤ sizeLine; decide), fun T nT => ?_⟩
          have nrT : r ≠ T := ne_of_none hr1 nT
          refine ⟨r, _, _, rfl, rfl, (upd_ne nrT).trans hr1, ?_, ?_⟩
          · rw [List.length_map]
            exact small1000 (by omega)
          · refine ⟨_, rfl, q r (us ++ [T]) _ nr ?_ ?_ ?_⟩
            · rw [upd_same, List.map_append]; rfl
            · rw [ej]
              have kp : Kp r H1 (upd (upd H1 T (.tup [.int S.2.1, .int S.2.2])) r (.lst (us.map V.ref ++ [.ref T]))) := (Kp.new nT).trans Kp.at_
              refine Pd.app (Pd.kp kp (fun xs z => by rw [hr1] at z; cases z) pu) ⟨?_, trivial⟩
              rw [upd_ne (Ne.symm nrT), upd_same]
            · intro b o hb
              rw [upd_ne (ne_of_none hb nr), upd_ne (ne_of_none (s1 _ _ hb) nT)]
              exact s1 _ _ hb
end
/-! union -/
abbrev s_union : Stmt := topS 16
abbrev sc_union_N : List Str := ["spans", "ends", "span"]
theorem sc_union : FnScope sc_union_N ["spans", "ends"] (defScope s_union) := ⟨rfl, rfl, rfl, by decide +kernel, rfl, by decide +kernel, by decide +kernel⟩
def sp_union (K : PySem.W.Frag) : Sp := fun vs H Q _ => ∃ (a : Addr) (ts : List Addr) (ps : List Pr) (z : Bool), vs = [.ref a, endsV z] ∧ Sq K H a (ts.map V.ref) ∧ Pd H ts ps ∧ (∀ p ∈ ps, strP p = true) ∧ ps.length ≤ 1000 ∧ ∀ r us H', H r = none → H' r = some (.lst (us.map V.ref)) → Pd H' us (unionM z ps) → Same H H' → Q (.ref r) H'
section
variable {P : Program} {w : World} {K : PySem.W.Frag} {mg : Str → Option Value} {bh : Heap}
theorem ok_union {f : Addr} {fd : FuncData} {f_check_stretches : Addr} {fd_check_stretches : FuncData} {f_check_ends : Addr} {fd_check_ends : FuncData} {f_join_sorted : Addr} {fd_join_sorted : FuncData} {f_is_empty : Addr} {fd_is_empty : FuncData} (B : Blt mg) (T : Txt K mg) (R_check_stretches : Rdy P w K mg bh "check_stretches" 5 ["spans"] (sp_check_stretches K) f_check_stretches fd_check_stretches) (R_check_ends : Rdy P w K mg bh "check_ends" 1 ["ends"] (sp_check_ends K) f_check_ends fd_check_ends) (R_join_sorted : Rdy P w K mg bh "join_sorted" 1 ["spans"] (sp_join_sorted K) f_join_sorted fd_join_sorted) (R_is_empty : RdyD P w K mg bh "is_empty" 2 ["pair", "ends"] [.str "half"] (sp_is_empty K) f_is_empty fd_is_empty) (F : FunD K "union" "union" (defArgs s_union) (defBody s_union) (defScope s_union) [.str "half"] [] f fd) : FnOk P w K mg bh CX0 6 f fd ["spans", "ends"] (sp_union K) := by
  refine okD F sc_union (fun vs H Q E h => ?_) (fun cdv A outer s H vs Q E hr h => ?_)
  · obtain ⟨a, ts, ps, z, rfl, _⟩ := h
    rfl
  · obtain ⟨a, ts, ps, z, rfl, sq, pd, hst, hlen, q⟩ := h
    refine ⟨_, (pss_cons (ps_expr (pe_rdy R_check_stretches hr (by decide) (by rfl) (pa_cons (pv 0) pa_nil)))
      (pss_cons (ps_expr (pe_rdy R_check_ends hr (by decide) (by rfl) (pa_cons (pv 1) pa_nil)))
      (pss_one (ps_ret (pe_rdy R_join_sorted hr (by decide) (by rfl) (pa_cons (pe_callB cr_sortedPO (by rfl) B.b_sorted (by decide +kernel) (pa_cons (pe_lc (own := [("span", 2)]) (by rfl) sc_union.nd (pi_sq (pv 0)) (blkOk_by (own := [("span", 2)]) (N := sc_union_N) (sc := defScope s_union) (by decide +kernel)) (fun _ _ _ _ _ => (pg_name (i := 2) sc_union.nd rfl (Or.inl rfl))) (fun _ _ _ _ _ => (pts_one (pt_not (pt_val (pe_rdyD R_is_empty hr (by decide) (by rfl) (pa_cons (pv 2) (pa_cons (pv 1) pa_nil))))))) (fun _ _ _ _ _ => (pv 2))) pa_nil)) pa_nil)))))), ?_⟩
    refine ⟨_, rfl, a, _, _, rfl, sq, pd.dp, ?_, fun H1 s1 => ?_⟩
    · intro d hd
      obtain ⟨p, hp, rfl⟩ := List.mem_map.mp hd
      exact hst p hp
    refine ⟨_, rfl, z, rfl, fun H2 s2 => ?_⟩
    have s12 := s1.trans s2
    refine ⟨_, rfl, a, _, rfl, sameQ s12 sq, fun J wk D nD => ?_⟩
    refine lc_it wk (fun i H' => ∃ us, Same H2 H' ∧ H' D = some (.lst (us.map V.ref)) ∧ Pd H' us ((ps.take i).filter fun p => !emp z p)) ⟨[], Same.new nD, upd_same, trivial⟩ (fun i H' _ h => sameK h.choose_spec.1) ?_ ?_
    · rintro i x H3 H4 hi ⟨us, ss, hD, pu⟩ ⟨rfl, hx⟩
      obtain ⟨t, ht, rfl⟩ := map_get hx
      obtain ⟨p, hp, et⟩ := Pd.get pd ht
      have et3 := (s12.trans ss) _ _ et
      have lu := pu.len
      have lf : ((ps.take i).filter fun p => !emp z p).length ≤ ps.length := Nat.le_trans (List.length_filter_le ..) (List.length_take_le' ..)
      refine ⟨rfl, ?_⟩
      refine ⟨_, rfl, _, rfl, t, p.1, p.2, z, rfl, SqT.hp et3, fun H5 s5 => ⟨_, rfl, ?_⟩⟩
      have et5 := s5 _ _ et3
      rw [take_more hp, List.filter_append]
      refine ite2 (fun c => ?_) (fun c => ?_)
      · have nDt : D ≠ t := ne_of (s5 _ _ hD) et5 (fun z => nomatch z)
        refine ⟨_, rfl, us.map V.ref, s5 _ _ hD, ?_, us ++ [t], ?_, ?_, ?_⟩
        · rw [List.length_map]
          exact small1000 (by omega)
        · intro b o hb
          rw [upd_ne (ne_of_none hb nD)]
          exact s5 _ _ (ss _ _ hb)
        · rw [upd_same, List.map_append]; rfl
        · have kp : Kp D H5 (upd H5 D (.lst (us.map V.ref ++ [.ref t]))) := Kp.at_
          rw [show List.filter (fun p => !emp z p) [p] = [p] from List.filter_cons_of_pos (p := fun p => !emp z p) c]
          refine Pd.app (Pd.kp kp (fun xs z => by rw [s5 _ _ hD] at z; cases z) (pu.same s5)) ⟨?_, trivial⟩
          rw [upd_ne (Ne.symm nDt)]
          exact et5
      · rw [show List.filter (fun p => !emp z p) [p] = [] from List.filter_cons_of_neg (p := fun p => !emp z p) c, List.append_nil]
        exact ⟨us, ss.trans s5, s5 _ _ hD, pu.same s5⟩
    · rintro H3 ⟨us, ss, hD, pu⟩
      rw [List.length_map, pd.len, List.take_length] at pu
      refine ⟨D, _, kOf H3, rfl, SqL.hp hD, pu.all, fun ys m hs hb nm => ?_⟩
      obtain ⟨vs, rfl, pv'⟩ := sorted_refs pu hs hb
      have sm : Same H3 (upd H3 m (.lst (vs.map V.ref))) := Same.new nm
      have s3 := s12.trans ss
      refine ⟨m, vs, _, rfl, SqL.hp upd_same, pv'.same sm, ?_, fun r ws H5 nr hr5 pw s5 => ?_⟩
      · have : (srt (ps.filter fun p => !emp z p)).length ≤ ps.length := by
          rw [(srt_perm _).length_eq]
          exact List.length_filter_le ..
        omega
      · exact q r ws H5 ((s3.trans sm).free nr) hr5 pw ((s3.trans sm).trans s5)
end
/-! in_one_form -/
abbrev s_in_one_form : Stmt := topS 17
abbrev sc_in_one_form_N : List Str := ["spans", "ends"]
theorem sc_in_one_form : FnScope sc_in_one_form_N ["spans", "ends"] (defScope s_in_one_form) := ⟨rfl, rfl, rfl, by decide +kernel, rfl, by decide +kernel, by decide +kernel⟩
def sp_in_one_form (K : PySem.W.Frag) : Sp := fun vs H Q _ => ∃ (a : Addr) (ts : List Addr) (ps : List Pr) (z : Bool), vs = [.ref a, endsV z] ∧ Sq K H a (ts.map V.ref) ∧ Pd H ts ps ∧ (∀ p ∈ ps, strP p = true) ∧ ps.length ≤ 1000 ∧ ∀ H', Same H H' → Q (.bl (oneF z ps)) H'
section
variable {P : Program} {w : World} {K : PySem.W.Frag} {mg : Str → Option Value} {bh : Heap}
theorem ok_in_one_form {f : Addr} {fd : FuncData} {f_union : Addr} {fd_union : FuncData} (B : Blt mg) (T : Txt K mg) (R_union : RdyD P w K mg bh "union" 6 ["spans", "ends"] [.str "half"] (sp_union K) f_union fd_union) (F : FunD K "in_one_form" "in_one_form" (defArgs s_in_one_form) (defBody s_in_one_form) (defScope s_in_one_form) [.str "half"] [] f fd) : FnOk P w K mg bh CX0 7 f fd ["spans", "ends"] (sp_in_one_form K) := by
  refine okD F sc_in_one_form (fun vs H Q E h => ?_) (fun cdv A outer s H vs Q E hr h => ?_)
  · obtain ⟨a, ts, ps, z, rfl, _⟩ := h
    rfl
  · obtain ⟨a, ts, ps, z, rfl, sq, pd, hst, hlen, q⟩ := h
    refine ⟨_, (pss_one (ps_ret (pe_cmpR (op_eqD hr.units) (pe_rdyD R_union hr (by decide) (by rfl) (pa_cons (pv 0) (pa_cons (pv 1) pa_nil))) (pe_callTy call_list_of (by rfl) B.b_list (by decide +kernel) (pa_cons (pv 0) pa_nil)) (nomark _)))), ?_⟩
    refine ⟨_, rfl, _, rfl, a, ts, ps, z, rfl, sq, pd, hst, hlen, fun r us H1 nr hr1 pu s1 => ?_⟩
    refine ⟨_, rfl, a, _, rfl, sameQ s1 sq, fun l nl => ?_⟩
    have sl : Same H1 (upd H1 l (.lst (ts.map V.ref))) := Same.new nl
    refine ⟨.list ((unionM z ps).map prD), .list (ps.map prD), .lst (SqL.hp (sl _ _ hr1)) (pu.same sl).dp, .lst (SqL.hp upd_same) (pd.same (s1.trans sl)).dp, shapedPs _, shapedPs _, ?_⟩
    have e : PyData.eqv (.list ((unionM z ps).map prD)) (.list (ps.map prD)) = oneF z ps := by
      rw [eqvPs, Bool.eq_iff_iff, decide_eq_true_eq]
      exact union_fix fun p hp => strP_le (hst p hp)
    rw [e]
    exact q _ (s1.trans sl)
end
/-! _law_bag -/
abbrev s_l_bag : Stmt := topS 19
abbrev sc_l_bag_N : List Str := ["_law_script", "_law_at", "_law_cell"]
theorem sc_l_bag : FnScope sc_l_bag_N ["_law_script", "_law_at"] (defScope s_l_bag) := ⟨rfl, rfl, rfl, by decide +kernel, rfl, by decide +kernel, by decide +kernel⟩
def sp_l_bag (K : PySem.W.Frag) : Sp := fun vs H Q _ => ∃ (a : Addr) (ns : List Int) (i : Int), vs = [.ref a, .int i] ∧ SqL K H a (ns.map V.int) ∧ 0 ≤ i ∧ i ≤ 63 ∧ ∀ p H', H p = none → BagAt H' p 0 → But p H H' → Q (.ref p) H'
section
variable {P : Program} {w : World} {K : PySem.W.Frag} {mg : Str → Option Value} {bh : Heap}
theorem ok_l_bag {f : Addr} {fd : FuncData}  (B : Blt mg) (T : Txt K mg)  (F : Fun K "_law_bag" "_law_bag" s_l_bag f fd) : FnOk P w K mg bh CX0 1 f fd ["_law_script", "_law_at"] (sp_l_bag K) := by
  refine F.ok sc_l_bag (fun vs H Q E h => ?_) (fun cdv A outer s H vs Q E hr h => ?_)
  · obtain ⟨a, ns, i, rfl, _⟩ := h
    rfl
  · obtain ⟨a, ns, i, rfl, sq, i0, i63, q⟩ := h
    refine ⟨_, (pss_cons (ps_set (i := 2) sc_l_bag.nd rfl (Or.inl rfl) (pe_ifExp (pt_cmpR op_lt (pv 1) (pe_callB call_len_seq (by rfl) B.b_len (by decide +kernel) (pa_cons (pv 0) pa_nil)) (nomark _)) (pe_ix ix_list (pv 0) (pv 1) (fun _ _ => rfl)) pe_int))
      (pss_one (ps_ret (pe_lst (pa_cons (pe_ifExp (pt_cmpR op_ge (pe_callB call_abs (by rfl) B.b_abs (by decide +kernel) (pa_cons (pv 2) pa_nil)) (pe_op op_pow pe_int pe_int) (nomark _)) (pe_callB call_abs (by rfl) B.b_abs (by decide +kernel) (pa_cons (pv 2) pa_nil)) pe_int) (pa_cons (pe_op op_mod (pe_callTy call_int1 (by rfl) B.b_int (by decide +kernel) (pa_cons (pv 2) pa_nil)) pe_int) (pa_cons (pe_op op_add (pe_op op_mul pe_int (pv 1)) pe_int) (pa_cons pe_int pa_nil)))))))), ?_⟩
    refine ⟨_, rfl, _, rfl, a, _, rfl, .inl sq, _, _, rfl, rfl, _, rfl, ?_⟩
    have fin : ∀ (n b0 : Int) (p : Addr), 0 ≤ b0 → H p = none → Q (.ref p) (upd H p (.lst [.int b0, .int (n % 2305843009213693951), .int (6151 * i + 389), .int 0])) := fun n b0 p h0 np =>
      q p _ np ⟨b0, n % 2305843009213693951, 6151 * i + 389, 0, upd_same, h0, by omega, by omega, by omega, by omega, by omega, by omega⟩ fun b nb => upd_ne nb
    have ab : ∀ n : Int, 0 ≤ (if n < 0 then -n else n) := fun n => by split <;> omega
    refine ite2 (fun c => ?_) (fun c => ?_)
    · have ci : i < (ns.map V.int).length := of_decide_eq_true c
      obtain ⟨n, hn⟩ : ∃ n, (ns.map V.int)[i.toNat]? = some (.int n) := by
        rw [List.length_map] at ci
        have : i.toNat < ns.length := by omega
        exact ⟨ns[i.toNat], by rw [List.getElem?_map, List.getElem?_eq_getElem this]; rfl⟩
      refine ⟨_, rfl, _, rfl, a, _, i, .int n, rfl, rfl, sq, at_of (by omega) hn, ?_⟩
      walk_at "vc"
      · intro p np
        exact fin n _ p (ab n) np
      · intro p np
        exact fin n _ p (Int.le_refl 0) np
    · walk_at "vc"
      all_goals (intro p np; first | exact fin 0 _ p (ab 0) np | exact fin 0 _ p (Int.le_refl 0) np)
end
/-! _law_take -/
abbrev s_l_take : Stmt := topS 20
abbrev sc_l_take_N : List Str := ["_law_bag_here", "_law_many", "_law_digit", "_law_mixed"]
theorem sc_l_take : FnScope sc_l_take_N ["_law_bag_here", "_law_many"] (defScope s_l_take) := ⟨rfl, rfl, rfl, by decide +kernel, rfl, by decide +kernel, by decide +kernel⟩
def sp_l_take (K : PySem.W.Frag) : Sp := fun vs H Q _ => ∃ (p : Addr) (m c : Int), vs = [.ref p, .int m] ∧ BagAt H p c ∧ c ≤ 1073741824 ∧ 0 < m ∧ m ≤ 1000000000000000000000000000000000000000000000 ∧ ∀ r H', 0 ≤ r → r < m → BagAt H' p (c + 1) → But p H H' → Q (.int r) H'
section
variable {P : Program} {w : World} {K : PySem.W.Frag} {mg : Str → Option Value} {bh : Heap}
theorem ok_l_take {f : Addr} {fd : FuncData}  (B : Blt mg) (T : Txt K mg)  (F : Fun K "_law_take" "_law_take" s_l_take f fd) : FnOk P w K mg bh CX0 1 f fd ["_law_bag_here", "_law_many"] (sp_l_take K) := by
  refine F.ok sc_l_take (fun vs H Q E h => ?_) (fun cdv A outer s H vs Q E hr h => ?_)
  · obtain ⟨p, m, c, rfl, _⟩ := h
    rfl
  · obtain ⟨p, m, c, rfl, ⟨b0, b1, b2, b3, hp, h0, h1, h1', h2, h2', h3, h3'⟩, hc, hm, hm', q⟩ := h
    refine ⟨_, (pss_cons (ps_if (pt_cmpR op_gt (pe_ix ix_list (pv 0) pe_int (fun _ _ => rfl)) pe_int (nomark _))
      (pss_cons (ps_set (i := 2) sc_l_take.nd rfl (Or.inl rfl) (pe_op op_mod (pe_callTy call_int1 (by rfl) B.b_int (by decide +kernel) (pa_cons (pe_ix ix_list (pv 0) pe_int (fun _ _ => rfl)) pa_nil)) (pv 1)))
      (pss_cons (ps_asg (pe_op op_fdivW (pe_ix ix_list (pv 0) pe_int (fun _ _ => rfl)) (pv 1)) (pg_sub (pv 0) pe_int set_list))
      (pss_one (ps_ret (pv 2)))))
      pss_nil)
      (pss_cons (ps_asg (pe_op op_add (pe_ix ix_list (pv 0) pe_int (fun _ _ => rfl)) pe_int) (pg_sub (pv 0) pe_int set_list))
      (pss_cons (ps_set (i := 3) sc_l_take.nd rfl (Or.inl rfl) (pe_op op_mod (pe_callTy call_int1 (by rfl) B.b_int (by decide +kernel) (pa_cons (pe_op op_pow (pe_op op_add (pe_op op_add (pe_ix ix_list (pv 0) pe_int (fun _ _ => rfl)) (pe_op op_mul pe_int (pe_ix ix_list (pv 0) pe_int (fun _ _ => rfl)))) (pe_ix ix_list (pv 0) pe_int (fun _ _ => rfl))) pe_int) pa_nil)) pe_int))
      (pss_cons (ps_set (i := 3) sc_l_take.nd rfl (Or.inl rfl) (pe_op op_mod (pe_callTy call_int1 (by rfl) B.b_int (by decide +kernel) (pa_cons (pe_op op_pow (pe_op op_add (pv 3) (pe_op op_mul pe_int (pe_ix ix_list (pv 0) pe_int (fun _ _ => rfl)))) pe_int) pa_nil)) pe_int))
      (pss_one (ps_ret (pe_op op_mod (pe_callTy call_int1 (by rfl) B.b_int (by decide +kernel) (pa_cons (pe_op op_fdivW (pv 3) pe_int) pa_nil)) (pv 1)))))))), ?_⟩
    walk_at "vc"
    · exact q _ _ (Int.emod_nonneg _ (by omega)) (Int.emod_lt_of_pos _ hm) ⟨_, b1, b2, b3, upd_same, Int.ediv_nonneg h0 (by omega), h1, h1', h2, h2', h3, by omega⟩ fun b n => upd_ne n
    · exact q _ _ (Int.emod_nonneg _ (by omega)) (Int.emod_lt_of_pos _ hm) ⟨b0, b1, b2, _, upd_same, h0, h1, h1', h2, h2', by omega, by omega⟩ fun b n => upd_ne n
end
/-! _law_edge -/
abbrev s_l_edge : Stmt := topS 21
abbrev sc_l_edge_N : List Str := ["_law_bag_here", "_law_kind"]
theorem sc_l_edge : FnScope sc_l_edge_N ["_law_bag_here"] (defScope s_l_edge) := ⟨rfl, rfl, rfl, by decide +kernel, rfl, by decide +kernel, by decide +kernel⟩
def sp_l_edge (K : PySem.W.Frag) : Sp := fun vs H Q _ => ∃ (p : Addr) (c : Int), vs = [.ref p] ∧ BagAt H p c ∧ c ≤ 1000000 ∧ ∀ r H', -1000000000000000000000000000000 ≤ r → r ≤ 1000000000000000000000000000000 → BagAt H' p (c + 3) → But p H H' → Q (.int r) H'
section
variable {P : Program} {w : World} {K : PySem.W.Frag} {mg : Str → Option Value} {bh : Heap}
theorem ok_l_edge {f : Addr} {fd : FuncData} {f_l_take : Addr} {fd_l_take : FuncData} (B : Blt mg) (T : Txt K mg) (R_l_take : Rdy P w K mg bh "_law_take" 1 ["_law_bag_here", "_law_many"] (sp_l_take K) f_l_take fd_l_take) (F : Fun K "_law_edge" "_law_edge" s_l_edge f fd) : FnOk P w K mg bh CX0 2 f fd ["_law_bag_here"] (sp_l_edge K) := by
  refine F.ok sc_l_edge (fun vs H Q E h => ?_) (fun cdv A outer s H vs Q E hr h => ?_)
  · obtain ⟨p, c, rfl, _⟩ := h
    rfl
  · obtain ⟨p, c, rfl, bg, hc, q⟩ := h
    refine ⟨_, (pss_cons (ps_set (i := 1) sc_l_edge.nd rfl (Or.inl rfl) (pe_rdy R_l_take hr (by decide) (by rfl) (pa_cons (pv 0) (pa_cons pe_int pa_nil))))
      (pss_cons (ps_if (pt_cmpR op_eq (pv 1) pe_int (nomark _))
      (pss_one (ps_ret (pe_op op_sub (pe_rdy R_l_take hr (by decide) (by rfl) (pa_cons (pv 0) (pa_cons (pe_op op_add (pe_op op_mul pe_int (pe_op op_pow pe_int pe_int)) pe_int) pa_nil))) (pe_op op_pow pe_int pe_int))))
      pss_nil)
      (pss_cons (ps_if (pt_cmpR op_eq (pv 1) pe_int (nomark _))
      (pss_one (ps_ret (pe_op op_mul (pe_op op_sub (pe_op op_pow pe_int pe_int) (pe_rdy R_l_take hr (by decide) (by rfl) (pa_cons (pv 0) (pa_cons pe_int pa_nil)))) (pe_op op_sub pe_int (pe_op op_mul pe_int (pe_rdy R_l_take hr (by decide) (by rfl) (pa_cons (pv 0) (pa_cons pe_int pa_nil))))))))
      pss_nil)
      (pss_one (ps_ret (pe_op op_sub (pe_rdy R_l_take hr (by decide) (by rfl) (pa_cons (pv 0) (pa_cons pe_int pa_nil))) pe_int)))))), ?_⟩
    refine ⟨_, rfl, p, 8, _, rfl, bg, by omega, by omega, by omega, fun k H1 k0 k1 bg1 bt1 => ?_⟩
    refine ⟨_, rfl, rfl, _, rfl, ?_⟩
    refine ite2 (fun c1 => ?_) (fun c1 => ?_)
    · refine ⟨_, rfl, _, _, rfl, rfl, ⟨by decide, by decide, by decide⟩, _, _, rfl, rfl, .inl ⟨by decide, by decide⟩, _, _, rfl, rfl, p, 2000000000000000000000000000001, _, rfl, bg1, by omega, by omega, by omega, fun r H2 r0 r1 bg2 bt2 => ⟨_, _, rfl, rfl, ⟨by decide, by decide, by decide⟩, _, _, rfl, rfl, ?_⟩⟩
      exact q (r - 1000000000000000000000000000000) H2 (by omega) (by omega) (bg2.mono (by omega)) (bt1.trans bt2)
    · refine ⟨_, rfl, rfl, _, rfl, ?_⟩
      refine ite2 (fun c2 => ?_) (fun c2 => ?_)
      · refine ⟨_, _, rfl, rfl, ⟨by decide, by decide, by decide⟩, _, rfl, p, 3, _, rfl, bg1, by omega, by omega, by omega, fun a H2 a0 a1 bg2 bt2 => ⟨_, _, rfl, rfl, ?_⟩⟩
        refine ⟨_, rfl, p, 2, _, rfl, bg2, by omega, by omega, by omega, fun b H3 b0 b1 bg3 bt3 => ⟨_, _, rfl, rfl, .inl ⟨by decide, by decide⟩, _, _, rfl, rfl, _, _, rfl, rfl, .inr ⟨by omega, by omega⟩, ?_⟩⟩
        refine q ((1000000000000000000000000000000 - a) * (1 - 2 * b)) H3 ?_ ?_ (bg3.mono (by omega)) ((bt1.trans bt2).trans bt3)
        · have : b = 0 ∨ b = 1 := by omega
          rcases this with h | h <;> subst h <;> omega
        · have : b = 0 ∨ b = 1 := by omega
          rcases this with h | h <;> subst h <;> omega
      · refine ⟨_, rfl, p, 15, _, rfl, bg1, by omega, by omega, by omega, fun r H2 r0 r1 bg2 bt2 => ⟨_, _, rfl, rfl, ?_⟩⟩
        exact q (r - 7) H2 (by omega) (by omega) (bg2.mono (by omega)) (bt1.trans bt2)
end
/-! _law_stretch -/
abbrev s_l_stretch : Stmt := topS 22
abbrev sc_l_stretch_N : List Str := ["_law_bag_here", "_law_one", "_law_other", "_law_begin", "_law_end", "_law_kind"]
theorem sc_l_stretch : FnScope sc_l_stretch_N ["_law_bag_here"] (defScope s_l_stretch) := ⟨rfl, rfl, rfl, by decide +kernel, rfl, by decide +kernel, by decide +kernel⟩
def sp_l_stretch (K : PySem.W.Frag) : Sp := fun vs H Q _ => ∃ (p : Addr) (c : Int), vs = [.ref p] ∧ BagAt H p c ∧ c ≤ 900000 ∧ ∀ t b e H', H t = none → H' t = some (.tup [.int b, .int e]) → strP (b, e) = true → BagAt H' p (c + 8) → Kp p H H' → Q (.ref t) H'
section
variable {P : Program} {w : World} {K : PySem.W.Frag} {mg : Str → Option Value} {bh : Heap}
theorem ok_l_stretch {f : Addr} {fd : FuncData} {f_l_take : Addr} {fd_l_take : FuncData} {f_l_edge : Addr} {fd_l_edge : FuncData} (B : Blt mg) (T : Txt K mg) (R_l_take : Rdy P w K mg bh "_law_take" 1 ["_law_bag_here", "_law_many"] (sp_l_take K) f_l_take fd_l_take) (R_l_edge : Rdy P w K mg bh "_law_edge" 2 ["_law_bag_here"] (sp_l_edge K) f_l_edge fd_l_edge) (F : Fun K "_law_stretch" "_law_stretch" s_l_stretch f fd) : FnOk P w K mg bh CX0 3 f fd ["_law_bag_here"] (sp_l_stretch K) := by
  refine F.ok sc_l_stretch (fun vs H Q E h => ?_) (fun cdv A outer s H vs Q E hr h => ?_)
  · obtain ⟨p, c, rfl, _⟩ := h
    rfl
  · obtain ⟨p, c, rfl, bg, hc, q⟩ := h
    refine ⟨_, (pss_cons (ps_par (i := 1) (j := 2) (by rfl) sc_l_stretch.nd rfl rfl (by decide) rfl rfl (pa_cons (pe_rdy R_l_edge hr (by decide) (by rfl) (pa_cons (pv 0) pa_nil)) (pa_cons (pe_rdy R_l_edge hr (by decide) (by rfl) (pa_cons (pv 0) pa_nil)) pa_nil)) (by rfl))
      (pss_mid (ps_if (pt_cmpR op_eq (pe_rdy R_l_take hr (by decide) (by rfl) (pa_cons (pv 0) (pa_cons pe_int pa_nil))) pe_int (nomark _))
      (pss_one (ps_set (i := 2) sc_l_stretch.nd rfl (Or.inl rfl) (pv 1)))
      pss_nil)
      (pss_cons (ps_par (i := 3) (j := 4) (by rfl) sc_l_stretch.nd rfl rfl (by decide) rfl rfl (pa_cons (pe_callB (call_min2 rfl) (by rfl) B.b_min (by decide +kernel) (pa_cons (pv 1) (pa_cons (pv 2) pa_nil))) (pa_cons (pe_callB (call_max2 rfl) (by rfl) B.b_max (by decide +kernel) (pa_cons (pv 1) (pa_cons (pv 2) pa_nil))) pa_nil)) (by rfl))
      (pss_cons (ps_set (i := 5) sc_l_stretch.nd rfl (Or.inl rfl) (pe_rdy R_l_take hr (by decide) (by rfl) (pa_cons (pv 0) (pa_cons pe_int pa_nil))))
      (pss_mid (ps_if (PW.pt (pw_or (pt_cmpR op_eq (pv 5) pe_int (nomark _)) (pw_or1 (pt_cmpR op_eq (pv 5) pe_int (nomark _)))))
      (pss_one (ps_set (i := 3) sc_l_stretch.nd rfl (Or.inl rfl) (pe_un un_neg (pe_op op_pow pe_int pe_int))))
      pss_nil)
      (pss_mid (ps_if (PW.pt (pw_or (pt_cmpR op_eq (pv 5) pe_int (nomark _)) (pw_or1 (pt_cmpR op_eq (pv 5) pe_int (nomark _)))))
      (pss_one (ps_set (i := 4) sc_l_stretch.nd rfl (Or.inl rfl) (pe_op op_pow pe_int pe_int)))
      pss_nil)
      (pss_one (ps_ret (pe_tup (pa_cons (pv 3) (pa_cons (pv 4) pa_nil))))))))))), ?_⟩
    refine ⟨_, rfl, p, _, rfl, bg, by omega, fun x H1 x0 x1 bg1 bt1 => ⟨_, rfl, p, _, rfl, bg1, by omega, fun y H2 y0 y1 bg2 bt2 => ⟨_, _, rfl, ?_⟩⟩⟩
    refine ⟨fun σ' H' => ∃ w, σ' = [some (.ref p), some (.int x), some (.int w), none, none, none] ∧ -1000000000000000000000000000000 ≤ w ∧ w ≤ 1000000000000000000000000000000 ∧ BagAt H' p (c + 7) ∧ But p H H', ?_, ?_⟩
    · refine ⟨_, rfl, p, 6, _, rfl, bg2, by omega, by omega, by omega, fun k H3 k0 k1 bg3 bt3 => ⟨rfl, _, rfl, ?_⟩⟩
      refine ite2 (fun c1 => ?_) (fun c1 => ?_)
      · exact ⟨_, rfl, x, rfl, x0, x1, bg3.mono (by omega), (bt1.trans bt2).trans bt3⟩
      · exact ⟨y, rfl, y0, y1, bg3.mono (by omega), (bt1.trans bt2).trans bt3⟩
    rintro σ' H3 ⟨w, rfl, w0, w1, bg3, bt3⟩
    refine ⟨_, rfl, _, rfl, _, _, rfl, _, rfl, _, rfl, _, _, rfl, _, _, rfl, ?_⟩
    refine ⟨_, rfl, p, 16, _, rfl, bg3, by omega, by omega, by omega, fun k H4 k0 k1 bg4 bt4 => ?_⟩
    obtain ⟨lo, elo⟩ : ∃ lo : Int, (if w < x then w else x) = lo := ⟨_, rfl⟩
    obtain ⟨hi, ehi⟩ : ∃ hi : Int, (if w > x then w else x) = hi := ⟨_, rfl⟩
    have hb : -1000000000000000000000000000000 ≤ lo ∧ lo ≤ hi ∧ hi ≤ 1000000000000000000000000000000 := by
      subst elo; subst ehi
      (repeat' split) <;> omega
    refine ⟨fun σ' H' => ∃ b, σ' = [some (.ref p), some (.int x), some (.int w), some (.int b), some (.int hi), some (.int k)] ∧ strP (b, hi) = true ∧ H' = H4, ?_, ?_⟩
    · have base : strP (lo, hi) = true := strP_of hb.1 hb.2.1 hb.2.2
      refine ⟨_, rfl, rfl, _, rfl, ?_⟩
      refine ite2 (fun c1 => ?_) (fun c1 => ?_)
      · exact ⟨_, _, rfl, rfl, ⟨by decide, by decide, by decide⟩, _, rfl, -10000000000000000000000000000000, by rw [← ehi]; rfl, strP_first base, rfl⟩
      · refine ⟨_, rfl, rfl, _, rfl, ?_⟩
        refine ite2 (fun c2 => ?_) (fun c2 => ?_)
        · exact ⟨_, _, rfl, rfl, ⟨by decide, by decide, by decide⟩, _, rfl, -10000000000000000000000000000000, by rw [← ehi]; rfl, strP_first base, rfl⟩
        · exact ⟨lo, by rw [← ehi, ← elo]; rfl, base, rfl⟩
    rintro σ' H5 ⟨b, rfl, base, rfl⟩
    refine ⟨fun σ' H' => ∃ e, σ' = [some (.ref p), some (.int x), some (.int w), some (.int b), some (.int e), some (.int k)] ∧ strP (b, e) = true ∧ H' = H5, ?_, ?_⟩
    · refine ⟨_, rfl, rfl, _, rfl, ?_⟩
      refine ite2 (fun c1 => ?_) (fun c1 => ?_)
      · exact ⟨_, _, rfl, rfl, ⟨by decide, by decide, by decide⟩, 10000000000000000000000000000000, rfl, strP_last base, rfl⟩
      · refine ⟨_, rfl, rfl, _, rfl, ?_⟩
        refine ite2 (fun c2 => ?_) (fun c2 => ?_)
        · exact ⟨_, _, rfl, rfl, ⟨by decide, by decide, by decide⟩, 10000000000000000000000000000000, rfl, strP_last base, rfl⟩
        · exact ⟨hi, rfl, base, rfl⟩
    rintro σ' H6 ⟨e, rfl, good, rfl⟩
    refine ⟨_, rfl, _, rfl, (by show 2 ≤ sizeLine; decide), fun T nT => ?_⟩
    have btf : But p H H6 := bt3.trans bt4
    have npT : p ≠ T := by obtain ⟨ys, h⟩ := bg4.lst; exact ne_of_none h nT
    exact q T b e _ ((btf T (Ne.symm npT)).symm.trans nT) upd_same good ((bg4.same (Same.new nT)).mono (by omega)) (btf.kp.trans (Kp.new nT))
end
/-! _law_holds -/
abbrev s_l_holds : Stmt := topS 24
abbrev sc_l_holds_N : List Str := ["_law_pair", "_law_moment", "_law_mode"]
theorem sc_l_holds : FnScope sc_l_holds_N ["_law_pair", "_law_moment", "_law_mode"] (defScope s_l_holds) := ⟨rfl, rfl, rfl, by decide +kernel, rfl, by decide +kernel, by decide +kernel⟩
def sp_l_holds (K : PySem.W.Frag) : Sp := fun vs H Q _ => ∃ (t : Addr) (p : Pr) (i : Int) (z : Bool), vs = [.ref t, .int i, endsV z] ∧ SqT K H t [.int p.1, .int p.2] ∧ p.1 ≤ p.2 ∧ Q (.bl (hldB z p i)) H
section
variable {P : Program} {w : World} {K : PySem.W.Frag} {mg : Str → Option Value} {bh : Heap}
theorem ok_l_holds {f : Addr} {fd : FuncData}  (B : Blt mg) (T : Txt K mg)  (F : Fun K "_law_holds" "_law_holds" s_l_holds f fd) : FnOk P w K mg bh CX0 1 f fd ["_law_pair", "_law_moment", "_law_mode"] (sp_l_holds K) := by
  refine F.ok sc_l_holds (fun vs H Q E h => ?_) (fun cdv A outer s H vs Q E hr h => ?_)
  · obtain ⟨t, p, i, z, rfl, _⟩ := h
    rfl
  · obtain ⟨t, p, i, z, rfl, sq, le, q⟩ := h
    refine ⟨_, (pss_one (ps_ret (pe_or (pe_chain op_le op_lt (pe_ix ix_tup (pv 0) pe_int (fun _ _ => rfl)) (pv 1) (pe_ix ix_tup (pv 0) pe_int (fun _ _ => rfl))) (pe_one (pe_and (pe_cmpR op_eq (pv 2) pe_str (nomark _)) (pe_one (pe_chain op_le op_eq (pe_ix ix_tup (pv 0) pe_int (fun _ _ => rfl)) (pv 1) (pe_ix ix_tup (pv 0) pe_int (fun _ _ => rfl))))))))), ?_⟩
    have e1 : p.1 ≤ i → i < p.2 → Q (.bl true) H := fun h1 h2 => by rw [hld_in h1 h2] at q; exact q
    have e2 : p.1 ≤ i → ¬ i < p.2 → Q (.bl (z && decide (V.int i = V.int p.2))) H := fun h1 h2 => by
      rw [hld_end h1 h2] at q
      rw [show decide (V.int i = V.int p.2) = decide (V.int p.2 = V.int i) from decide_eq_decide.mpr ⟨Eq.symm, Eq.symm⟩]
      exact q
    have e3 : ¬ p.1 ≤ i → Q (.bl false) H := fun h => by rw [(hld_out (z := z) h le).2] at q; exact q
    refine ⟨_, rfl, t, _, 0, _, rfl, rfl, sq, rfl, _, rfl, _, _, rfl, rfl, _, rfl, ?_⟩
    have tail : ∀ b, (z && decide (V.int i = V.int p.2)) = b → (p.1 ≤ i → Q (.bl b) H) → p.1 ≤ i → scal (endsV z) (.str "shut") = true ∧ True := fun _ _ _ _ => ⟨endsV_scal z, trivial⟩
    clear tail
    refine ite2 (fun c1 => ?_) (fun c1 => ?_)
    · have h1 : p.1 ≤ i := of_decide_eq_true c1
      refine ⟨_, rfl, t, _, 1, _, rfl, rfl, sq, rfl, _, _, rfl, rfl, _, rfl, ?_⟩
      refine ite2 (fun c2 => ?_) (fun c2 => ?_)
      · exact e1 h1 (of_decide_eq_true c2)
      · have h2 : ¬ i < p.2 := fun h => c2 (decide_eq_true h)
        refine ⟨_, rfl, endsV_scal z, _, rfl, ?_⟩
        rw [endsV_shut]
        have e := e2 h1 h2
        refine ite2 (fun c3 => ?_) (fun c3 => ?_)
        · rw [c3, Bool.true_and] at e
          refine ⟨_, rfl, t, _, 0, _, rfl, rfl, sq, rfl, _, rfl, _, _, rfl, rfl, _, rfl, ?_⟩
          rw [decide_eq_true h1]
          exact iteT ⟨_, rfl, t, _, 1, _, rfl, rfl, sq, rfl, rfl, e⟩
        · rw [Bool.eq_false_iff.mpr c3, Bool.false_and] at e
          exact e
    · have h1 : ¬ p.1 ≤ i := fun h => c1 (decide_eq_true h)
      refine ⟨_, rfl, iteF ?_⟩
      refine ⟨_, rfl, endsV_scal z, _, rfl, ?_⟩
      rw [endsV_shut]
      refine ite2 (fun c3 => ?_) (fun c3 => ?_)
      · refine ⟨_, rfl, t, _, 0, _, rfl, rfl, sq, rfl, _, rfl, _, _, rfl, rfl, _, rfl, ?_⟩
        rw [decide_eq_false h1]
        exact iteF (e3 h1)
      · exact e3 h1
end
/-! _law_moments -/
abbrev s_l_moments : Stmt := topS 23
abbrev sc_l_moments_N : List Str := ["_law_pairs", "_law_found", "_law_begin", "_law_end", "_law_one"]
theorem sc_l_moments : FnScope sc_l_moments_N ["_law_pairs"] (defScope s_l_moments) := ⟨rfl, rfl, rfl, by decide +kernel, rfl, by decide +kernel, by decide +kernel⟩
def sp_l_moments (K : PySem.W.Frag) : Sp := fun vs H Q _ => ∃ (a : Addr) (ts : List Addr) (ps : List Pr), vs = [.ref a] ∧ SqL K H a (ts.map V.ref) ∧ Pd H ts ps ∧ ps.length ≤ 100 ∧ ∀ r (ms : List Int) H', H r = none → H' r = some (.lst (ms.map V.int)) → Same H H' → Q (.ref r) H'
section
variable {P : Program} {w : World} {K : PySem.W.Frag} {mg : Str → Option Value} {bh : Heap}
theorem ok_l_moments {f : Addr} {fd : FuncData}  (B : Blt mg) (T : Txt K mg)  (F : Fun K "_law_moments" "_law_moments" s_l_moments f fd) : FnOk P w K mg bh CX0 1 f fd ["_law_pairs"] (sp_l_moments K) := by
  refine F.ok sc_l_moments (fun vs H Q E h => ?_) (fun cdv A outer s H vs Q E hr h => ?_)
  · obtain ⟨a, ts, ps, rfl, _⟩ := h
    rfl
  · obtain ⟨a, ts, ps, rfl, sq, pd, hlen, q⟩ := h
    refine ⟨_, (pss_cons (ps_set (i := 1) sc_l_moments.nd rfl (Or.inl rfl) (pe_lst (pa_cons (pe_op op_sub pe_int (pe_op op_pow pe_int pe_int)) (pa_cons (pe_op op_sub (pe_op op_pow pe_int pe_int) pe_int) pa_nil))))
      (pss_cons (ps_for PassesOwn.never rfl (pi_list (pv 0)) (pg_tup (by rfl) (pgs_cons (pg_name (i := 2) sc_l_moments.nd rfl (Or.inl rfl)) (pgs_cons (pg_name (i := 3) sc_l_moments.nd rfl (Or.inl rfl)) pgs_nil)))
      (pss_one (ps_set (i := 1) sc_l_moments.nd rfl (Or.inl rfl) (pe_op op_cat (pv 1) (pe_lst (pa_cons (pe_op op_sub (pv 2) pe_int) (pa_cons (pv 2) (pa_cons (pe_op op_add (pv 2) pe_int) (pa_cons (pe_op op_sub (pv 3) pe_int) (pa_cons (pv 3) (pa_cons (pe_op op_add (pv 3) pe_int) pa_nil)))))))))))
      (pss_one (ps_ret (pe_callB (cr_sortSet (by rfl)) (by rfl) B.b_sorted (by decide +kernel) (pa_cons (pe_callTy (cr_setOf (by rfl)) (by rfl) B.b_set (by decide +kernel) (pa_cons (pe_lc (own := [("_law_one", 4)]) (by rfl) sc_l_moments.nd (pi_sq (pv 1)) (blkOk_by (own := [("_law_one", 4)]) (N := sc_l_moments_N) (sc := defScope s_l_moments) (by decide +kernel)) (fun _ _ _ _ _ => (pg_name (i := 4) sc_l_moments.nd rfl (Or.inl rfl))) (fun _ _ _ _ _ => (pts_one (pt_chain op_lt op_lt (pe_un un_neg (pe_op op_pow pe_int pe_int)) (pv 4) (pe_op op_pow pe_int pe_int)))) (fun _ _ _ _ _ => (pv 4))) pa_nil)) pa_nil)))))), ?_⟩
    have lts := pd.len
    refine ⟨_, _, rfl, rfl, ⟨by decide, by decide, by decide⟩, _, _, rfl, rfl, _, _, rfl, rfl, ⟨by decide, by decide, by decide⟩, _, _, rfl, rfl, (by show 2 ≤ sizeLine; decide), fun L nL => ?_⟩
    have sL := Same.new (o := .lst [.int (1 - 10 ^ (31 : Int).toNat), .int (10 ^ (31 : Int).toNat - 1)]) nL
    refine ⟨_, rfl, a, rfl, ⟨_, sL.seq sq⟩, ?_⟩
    refine for_list (K := K) (a := a) (xs := ts.map V.ref) (fun i σ H' => ∃ F fs y2 y3, σ = [some (.ref a), some (.ref F), y2, y3, none] ∧ H' F = some (.lst ((fs : List Int).map V.int)) ∧ fs.length ≤ 2 + 6 * i ∧ Same H H')
      ⟨L, [1 - 10 ^ (31 : Int).toNat, 10 ^ (31 : Int).toNat - 1], none, none, rfl, upd_same, Nat.le_refl _, sL⟩ (fun i σ H' _ h => by obtain ⟨_, _, _, _, _, _, _, s⟩ := h; exact s.seq sq) ?_ ?_
    · rintro i x σ H3 hx ⟨F, fs, y2, y3, rfl, hF, hl, s3⟩
      obtain ⟨t, ht, rfl⟩ := map_get hx
      obtain ⟨p, hp, et0⟩ := Pd.get pd ht
      have et := s3 _ _ et0
      have li : i < ps.length := (List.getElem?_eq_some_iff.mp hp).1
      refine ⟨t, _, rfl, SqT.hp et, rfl, _, _, rfl, _, _, rfl, rfl, ?_⟩
      refine ⟨_, rfl, _, rfl, _, _, rfl, rfl, _, rfl, _, rfl, _, _, rfl, rfl, _, rfl, _, _, rfl, rfl, _, rfl, _, rfl, _, _, rfl, rfl, (by show 6 ≤ sizeLine; decide), fun M nM => ?_⟩
      have sM := Same.new (o := .lst ([p.1 - 1, p.1, p.1 + 1, p.2 - 1, p.2, p.2 + 1].map V.int)) nM
      refine ⟨F, M, _, _, rfl, rfl, sM _ _ hF, upd_same, Nat.le_of_lt (small1000 (by rw [List.length_map]; show fs.length + 6 ≤ 1000; omega)), fun C nC => ?_⟩
      have sC := Same.new (o := .lst (fs.map V.int ++ [p.1 - 1, p.1, p.1 + 1, p.2 - 1, p.2, p.2 + 1].map V.int)) nC
      exact ⟨C, fs ++ [p.1 - 1, p.1, p.1 + 1, p.2 - 1, p.2, p.2 + 1], _, _, rfl, by rw [upd_same, List.map_append]; rfl, by rw [List.length_append]; show fs.length + 6 ≤ _; omega, s3.trans (sM.trans sC)⟩
    · rintro σ H3 ⟨F, fs, y2, y3, rfl, hF, hl, s3⟩
      rw [List.length_map, lts] at hl
      refine ⟨_, rfl, F, _, rfl, .inl (SqL.hp hF), fun J wk D nD => ?_⟩
      refine lc_it wk (fun k H' => ∃ gs : List Int, Same H3 H' ∧ H' D = some (.lst (gs.map V.int)) ∧ gs.length ≤ k) ⟨[], Same.new nD, upd_same, Nat.le_refl _⟩ (fun k H' _ h => sameK h.choose_spec.1) ?_ ?_
      · rintro k x H6 H7 hk ⟨gs, s6, hD, hgl⟩ ⟨rfl, hx⟩
        obtain ⟨n, hn, rfl⟩ := map_get hx
        rw [List.length_map] at hk
        have keep : ∃ gs' : List Int, Same H3 H7 ∧ H7 D = some (.lst (gs'.map V.int)) ∧ gs'.length ≤ k + 1 := ⟨gs, s6, hD, by omega⟩
        refine ⟨rfl, ?_⟩
        refine ⟨_, _, rfl, rfl, ⟨by decide, by decide, by decide⟩, _, rfl, _, rfl, _, _, rfl, rfl, _, rfl, ?_⟩
        refine ite2 (fun c1 => ?_) (fun c1 => ⟨_, rfl, iteF keep⟩)
        refine ⟨_, _, rfl, rfl, ⟨by decide, by decide, by decide⟩, _, _, rfl, rfl, _, rfl, ?_⟩
        refine ite2 (fun c2 => ?_) (fun c2 => keep)
        exact ⟨_, rfl, _, hD, by rw [List.length_map]; exact small1000 (by omega), gs ++ [n], fun w o e => by rw [upd_ne (ne_of_none e nD)]; exact s6 _ _ e, by rw [upd_same, List.map_append]; rfl, by rw [List.length_append, List.length_singleton]; omega⟩
      · rintro H6 ⟨gs, s6, hD, hgl⟩
        rw [List.length_map] at hgl
        refine ⟨D, gs, rfl, SqL.hp hD, by omega, fun a2 n2 na2 => ⟨a2, _, n2, rfl, upd_same, fun ns r _ _ nr => ?_⟩⟩
        have nr6 : H6 r = none := by
          by_cases e : r = a2
          · rw [e, upd_same] at nr
            cases nr
          · rwa [upd_ne e] at nr
        exact q r ns _ ((s3.trans s6).free nr6) upd_same ((s3.trans s6).trans ((Same.new na2).trans (Same.new nr)))
end
/-! _law_pairs_right -/
abbrev s_l_pairs_right : Stmt := topS 25
abbrev sc_l_pairs_right_N : List Str := ["_law_found", "_law_count", "_law_pair"]
theorem sc_l_pairs_right : FnScope sc_l_pairs_right_N ["_law_found", "_law_count"] (defScope s_l_pairs_right) := ⟨rfl, rfl, rfl, by decide +kernel, rfl, by decide +kernel, by decide +kernel⟩
def sp_l_pairs_right (K : PySem.W.Frag) : Sp := fun vs H Q _ => ∃ (a : Addr) (ts : List Addr) (ps : List Pr) (n : Int), vs = [.ref a, .int n] ∧ SqL K H a (ts.map V.ref) ∧ Pd H ts ps ∧ (ps.length : Int) ≤ n ∧ Q (.bl true) H
section
variable {P : Program} {w : World} {K : PySem.W.Frag} {mg : Str → Option Value} {bh : Heap}
theorem ok_l_pairs_right {f : Addr} {fd : FuncData}  (B : Blt mg) (T : Txt K mg)  (F : Fun K "_law_pairs_right" "_law_pairs_right" s_l_pairs_right f fd) : FnOk P w K mg bh CX0 1 f fd ["_law_found", "_law_count"] (sp_l_pairs_right K) := by
  refine F.ok sc_l_pairs_right (fun vs H Q E h => ?_) (fun cdv A outer s H vs Q E hr h => ?_)
  · obtain ⟨a, ts, ps, n, rfl, _⟩ := h
    rfl
  · obtain ⟨a, ts, ps, n, rfl, sq, pd, hlen, q⟩ := h
    refine ⟨_, (pss_cons (ps_if (PW.pt (pw_or (pt_not (pt_val (pe_callB call_isi (by rfl) B.b_isinstance (by decide +kernel) (pa_cons (pv 0) (pa_cons (pe_bltn (v := .ty "list") (by rfl) B.b_list (by decide +kernel) rfl) pa_nil))))) (pw_or1 (pt_cmpR op_gt (pe_callB call_len_seq (by rfl) B.b_len (by decide +kernel) (pa_cons (pv 0) pa_nil)) (pv 1) (nomark _)))))
      (pss_one (ps_ret pe_bl))
      pss_nil)
      (pss_cons (ps_for PassesOwn.never rfl (pi_list (pv 0)) (pg_name (i := 2) sc_l_pairs_right.nd rfl (Or.inl rfl))
      (pss_cons (ps_if (PW.pt (pw_or (pt_not (pt_val (pe_callB call_isi (by rfl) B.b_isinstance (by decide +kernel) (pa_cons (pv 2) (pa_cons (pe_bltn (v := .ty "tuple") (by rfl) B.b_tuple (by decide +kernel) rfl) pa_nil))))) (pw_or1 (pt_cmpR op_ne (pe_callB call_len_seq (by rfl) B.b_len (by decide +kernel) (pa_cons (pv 2) pa_nil)) pe_int (nomark _)))))
      (pss_one (ps_ret pe_bl))
      pss_nil)
      (pss_one (ps_if (PW.pt (pw_or (pt_not (pt_val (pe_callB call_isi (by rfl) B.b_isinstance (by decide +kernel) (pa_cons (pe_ix ix_tup (pv 2) pe_int (fun _ _ => rfl)) (pa_cons (pe_bltn (v := .ty "int") (by rfl) B.b_int (by decide +kernel) rfl) pa_nil))))) (pw_or1 (pt_not (pt_val (pe_callB call_isi (by rfl) B.b_isinstance (by decide +kernel) (pa_cons (pe_ix ix_tup (pv 2) pe_int (fun _ _ => rfl)) (pa_cons (pe_bltn (v := .ty "int") (by rfl) B.b_int (by decide +kernel) rfl) pa_nil))))))))
      (pss_one (ps_ret pe_bl))
      pss_nil))))
      (pss_one (ps_ret pe_bl)))), ?_⟩
    have lts := pd.len
    refine ⟨_, rfl, _, _, _, _, _, rfl, .ty _, dpTy (.lst sq pd.dp), kit_ty (kitLst _), _, rfl, iteFe rfl ?_⟩
    refine ⟨_, rfl, a, _, rfl, .inl sq, _, rfl, _, _, rfl, rfl, _, rfl, iteFe (decide_eq_false (by rw [List.length_map, lts]; omega)) ?_⟩
    refine ⟨_, rfl, a, rfl, ⟨_, sq⟩, ?_⟩
    refine for_list (K := K) (a := a) (xs := ts.map V.ref) (fun i σ H' => (∃ y, σ = [some (.ref a), some (.int n), y]) ∧ H' = H) ⟨⟨_, rfl⟩, rfl⟩ (fun i σ H' _ h => by rw [h.2]; exact sq) ?_ ?_
    · rintro i x σ H1 hx ⟨⟨y, rfl⟩, rfl⟩
      obtain ⟨t, ht, rfl⟩ := map_get hx
      obtain ⟨p, hp, et⟩ := Pd.get pd ht
      refine ⟨_, rfl, _, _, _, _, _, rfl, .ty _, dpTy (.tup (SqT.hp et) (.cons (.int _) (.cons (.int _) .nil))), kit_ty (kitTup (prD p)), _, rfl, iteFe rfl ?_⟩
      refine ⟨_, rfl, t, _, rfl, .inr (SqT.hp et), rfl, _, rfl, iteFe (by show (!decide (V.int 2 = V.int 2)) = false; simp) ?_⟩
      refine ⟨_, rfl, t, _, 0, _, rfl, rfl, SqT.hp et, rfl, _, _, _, _, _, rfl, .ty _, dpTy (.int _), kit_ty (kitInt (.int _)), _, rfl, iteFe rfl ?_⟩
      refine ⟨_, rfl, t, _, 1, _, rfl, rfl, SqT.hp et, rfl, _, _, _, _, _, rfl, .ty _, dpTy (.int _), kit_ty (kitInt (.int _)), _, rfl, iteFe rfl ?_⟩
      exact ⟨⟨_, rfl⟩, rfl⟩
    · rintro σ H1 ⟨⟨y, rfl⟩, rfl⟩
      exact q
end
/-! _law_due -/
abbrev s_l_due : Stmt := topS 26
abbrev sc_l_due_N : List Str := ["_law_rows", "_law_mode", "_law_full", "_law_begins", "_law_closes", "_law_begin", "_law_end", "_law_span", "_law_one"]
theorem sc_l_due : FnScope sc_l_due_N ["_law_rows", "_law_mode"] (defScope s_l_due) := ⟨rfl, rfl, rfl, by decide +kernel, rfl, by decide +kernel, by decide +kernel⟩
def sp_l_due (K : PySem.W.Frag) : Sp := fun vs H Q _ => ∃ (a : Addr) (ts : List Addr) (ps : List Pr) (z : Bool), vs = [.ref a, endsV z] ∧ SqL K H a (ts.map V.ref) ∧ Pd H ts ps ∧ (∀ p ∈ ps, strP p = true) ∧ ps.length ≤ 100 ∧ ∀ r us H', H r = none → H' r = some (.lst (us.map V.ref)) → Pd H' us (unionM z ps) → Same H H' → Q (.ref r) H'
section
variable {P : Program} {w : World} {K : PySem.W.Frag} {mg : Str → Option Value} {bh : Heap}
theorem ok_l_due {f : Addr} {fd : FuncData}  (B : Blt mg) (T : Txt K mg)  (F : Fun K "_law_due" "_law_due" s_l_due f fd) : FnOk P w K mg bh CX0 1 f fd ["_law_rows", "_law_mode"] (sp_l_due K) := by
  refine F.ok sc_l_due (fun vs H Q E h => ?_) (fun cdv A outer s H vs Q E hr h => ?_)
  · obtain ⟨a, ts, ps, z, rfl, _⟩ := h
    rfl
  · obtain ⟨a, ts, ps, z, rfl, sq, pd, hst, hlen, q⟩ := h
    refine ⟨_, (pss_cons (ps_setLc (i := 2) (own := [("_law_span", 7)]) (by rfl) sc_l_due.nd rfl rfl (sw_true rfl rfl rfl (by decide +kernel)) (pi_sq (pv 0)) (blkOk_by (own := [("_law_span", 7)]) (N := sc_l_due_N) (sc := defScope s_l_due) (by decide +kernel)) (fun _ _ _ _ _ => (pg_name (i := 7) sc_l_due.nd rfl (Or.inl rfl))) (fun _ _ _ _ _ => (pts_one (PW.pt (pw_or (pt_cmpR op_lt (pe_ix (ix_tupK (K := K)) (pv 7) pe_int (fun _ _ => rfl)) (pe_ix (ix_tupK (K := K)) (pv 7) pe_int (fun _ _ => rfl)) (nomark _)) (pw_or1 (pt_cmpR op_eq (pv 1) pe_str (nomark _))))))) (fun _ _ _ _ _ => (pv 7)))
      (pss_cons (ps_par (i := 3) (j := 4) (by rfl) sc_l_due.nd rfl rfl (by decide) rfl rfl (pa_cons (pe_lst pa_nil) (pa_cons (pe_lst pa_nil) pa_nil)) (by rfl))
      (pss_cons (ps_for PassesOwn.never rfl (pi_list (pv 2)) (pg_tup (by rfl) (pgs_cons (pg_name (i := 5) sc_l_due.nd rfl (Or.inr rfl)) (pgs_cons (pg_name (i := 6) sc_l_due.nd rfl (Or.inr rfl)) pgs_nil)))
      (pss_mid (ps_if (pt_cmpR (op_eqD hr.units) (pe_lc (own := [("_law_one", 8)]) (by rfl) sc_l_due.nd (pi_sq (pv 2)) (blkOk_by (own := [("_law_one", 8)]) (N := sc_l_due_N) (sc := defScope s_l_due) (by decide +kernel)) (fun _ _ _ _ _ => (pg_name (i := 8) sc_l_due.nd rfl (Or.inl rfl))) (fun _ _ _ _ _ => (pts_one (pt_chain op_lt op_le (pe_ix (ix_tupK (K := K)) (pv 8) pe_int (fun _ _ => rfl)) (pv 5) (pe_ix (ix_tupK (K := K)) (pv 8) pe_int (fun _ _ => rfl))))) (fun _ _ _ _ _ => (pv 8))) (pe_lst pa_nil) (nomark _))
      (pss_one (ps_expr (pe_bm PySem.F.plainAttrs_list PySem.F.slot_list_append PySem.F.type_list_append mt_append (pv 3) (pa_cons (pv 5) pa_nil))))
      pss_nil)
      (pss_one (ps_if (pt_cmpR (op_eqD hr.units) (pe_lc (own := [("_law_one", 8)]) (by rfl) sc_l_due.nd (pi_sq (pv 2)) (blkOk_by (own := [("_law_one", 8)]) (N := sc_l_due_N) (sc := defScope s_l_due) (by decide +kernel)) (fun _ _ _ _ _ => (pg_name (i := 8) sc_l_due.nd rfl (Or.inl rfl))) (fun _ _ _ _ _ => (pts_one (pt_chain op_le op_lt (pe_ix (ix_tupK (K := K)) (pv 8) pe_int (fun _ _ => rfl)) (pv 6) (pe_ix (ix_tupK (K := K)) (pv 8) pe_int (fun _ _ => rfl))))) (fun _ _ _ _ _ => (pv 8))) (pe_lst pa_nil) (nomark _))
      (pss_one (ps_expr (pe_bm PySem.F.plainAttrs_list PySem.F.slot_list_append PySem.F.type_list_append mt_append (pv 4) (pa_cons (pv 6) pa_nil))))
      pss_nil))))
      (pss_one (ps_ret (pe_listZip (by rfl) B.b_list (by rfl) B.b_zip (by rfl) (pa_cons (pe_callB (cr_sortSet (by rfl)) (by rfl) B.b_sorted (by decide +kernel) (pa_cons (pe_callTy (cr_setOf (by rfl)) (by rfl) B.b_set (by decide +kernel) (pa_cons (pv 3) pa_nil)) pa_nil)) (pa_cons (pe_callB (cr_sortSet (by rfl)) (by rfl) B.b_sorted (by decide +kernel) (pa_cons (pe_callTy (cr_setOf (by rfl)) (by rfl) B.b_set (by decide +kernel) (pa_cons (pv 4) pa_nil)) pa_nil)) pa_nil)))))))), ?_⟩
    have lts := pd.len
    -- full
    refine ⟨_, rfl, a, _, rfl, .inl sq, fun J wk D nD => ?_⟩
    refine lc_it wk (fun i H' => ∃ us, Same H H' ∧ H' D = some (.lst (us.map V.ref)) ∧ Pd H' us ((ps.take i).filter fun p => !emp z p)) ⟨[], Same.new nD, upd_same, trivial⟩ (fun i H' _ h => sameK h.choose_spec.1) ?_ ?_
    · rintro i x H3 H4 hi ⟨us, ss, hD, pu⟩ ⟨rfl, hx⟩
      obtain ⟨t1, ht, rfl⟩ := map_get hx
      obtain ⟨p, hp, et0⟩ := Pd.get pd ht
      have et := ss _ _ et0
      have le := strP_le (hst p (List.mem_of_getElem? hp))
      have sml : (us.map V.ref).length < sizeLine := by
        have := pu.len
        have := filt_len (f := fun p => !emp z p) (ps := ps) (i := i)
        rw [List.length_map]
        exact small1000 (by omega)
      refine ⟨rfl, ?_⟩
      refine ⟨_, rfl, t1, _, 0, _, rfl, rfl, SqT.hp et, rfl, _, rfl, t1, _, 1, _, rfl, rfl, SqT.hp et, rfl, _, _, rfl, rfl, _, rfl, ?_⟩
      refine ite2 (fun c1 => ?_) (fun c1 => ?_)
      · exact iteT ⟨_, rfl, us.map V.ref, hD, sml, keep_more ss nD hD pu et hp (by rw [emp_full (.inl (of_decide_eq_true c1)) le]; rfl)⟩
      · refine ⟨_, rfl, endsV_scal z, _, rfl, ?_⟩
        rw [endsV_shut]
        refine ite2 (fun c2 => ?_) (fun c2 => ?_)
        · exact ⟨_, rfl, us.map V.ref, hD, sml, keep_more ss nD hD pu et hp (by rw [emp_full (.inr c2) le]; rfl)⟩
        · exact ⟨us, ss, hD, keep_less pu hp (by rw [emp_not (fun h => c1 (decide_eq_true h)) c2]; rfl)⟩
    rintro H1 ⟨us, s1, hD, pu⟩
    rw [List.length_map, lts, List.take_length] at pu
    clear wk nD
    obtain ⟨F, eF⟩ : ∃ F, ps.filter (fun p => !emp z p) = F := ⟨_, rfl⟩
    rw [eF] at pu
    have lF : F.length ≤ 100 := by rw [← eF]; exact Nat.le_trans (List.length_filter_le ..) hlen
    have lus := pu.len
    refine ⟨Nat.zero_le _, fun B nB => ⟨Nat.zero_le _, fun C nC => ⟨_, _, rfl, ?_⟩⟩⟩
    have nBC : B ≠ C := ne_of_none upd_same nC
    have nC1 : H1 C = none := upd_free nC
    have s2 : Same H1 (upd (upd H1 B (.lst [])) C (.lst [])) := (Same.new nB).trans (Same.new nC)
    have hB0 : (upd (upd H1 B (.lst [])) C (.lst [])) B = some (.lst []) := by rw [upd_ne nBC, upd_same]
    have hC0 : (upd (upd H1 B (.lst [])) C (.lst [])) C = some (.lst []) := upd_same
    generalize upd (upd H1 B (.lst [])) C (.lst []) = H2 at *
    refine ⟨_, rfl, D, rfl, ⟨_, SqL.hp (s2 _ _ hD)⟩, ?_⟩
    refine for_list (K := K) (a := D) (xs := us.map V.ref) (fun i σ H' => (∃ y5 y6, σ = [some (.ref a), some (endsV z), some (.ref D), some (.ref B), some (.ref C), y5, y6, none, none]) ∧ H' B = some (.lst ((bgs F i).map V.int)) ∧ H' C = some (.lst ((ens F i).map V.int)) ∧ Same H1 H') ⟨⟨none, none, rfl⟩, hB0, hC0, s2⟩ (fun i σ H' _ h => SqL.hp (h.2.2.2 _ _ hD)) ?_ ?_
    · rintro i x σ H3 hx ⟨⟨y5, y6, rfl⟩, hB, hC, s3⟩
      obtain ⟨t, ht, rfl⟩ := map_get hx
      obtain ⟨p, hp, et0⟩ := Pd.get pu ht
      refine ⟨t, _, rfl, SqT.hp (s3 _ _ et0), rfl, _, _, rfl, _, _, rfl, rfl, ?_⟩
      refine ⟨fun σ H' => σ = [some (.ref a), some (endsV z), some (.ref D), some (.ref B), some (.ref C), some (.int p.1), some (.int p.2), none, none] ∧ H' B = some (.lst ((bgs F (i + 1)).map V.int)) ∧ H' C = some (.lst ((ens F i).map V.int)) ∧ Same H1 H', ?_, ?_⟩
      · refine ⟨_, rfl, D, _, rfl, .inl (SqL.hp (s3 _ _ hD)), fun J wk G nG => ?_⟩
        refine lc_it wk (fun k H' => ∃ vs, Same H3 H' ∧ H' G = some (.lst (vs.map V.ref)) ∧ Pd H' vs ((F.take k).filter fun o => decide (o.1 < p.1) && decide (p.1 ≤ o.2))) ⟨[], Same.new nG, upd_same, trivial⟩ (fun k H' _ h => sameK h.choose_spec.1) ?_ ?_
        · rintro k x H4 H5 hk ⟨vs, ss, hG, pv⟩ ⟨rfl, hx⟩
          obtain ⟨t1, ht1, rfl⟩ := map_get hx
          obtain ⟨o, ho, eo0⟩ := Pd.get pu ht1
          have eo := ss _ _ (s3 _ _ eo0)
          have sml : (vs.map V.ref).length < sizeLine := by
            have := pv.len
            have := filt_len (f := fun o : Pr => decide (o.1 < p.1) && decide (p.1 ≤ o.2)) (ps := F) (i := k)
            rw [List.length_map]
            exact small1000 (by omega)
          refine ⟨rfl, ?_⟩
          refine ⟨_, rfl, t1, _, 0, _, rfl, rfl, SqT.hp eo, rfl, _, rfl, _, _, rfl, rfl, _, rfl, ?_⟩
          refine ite2 (fun c1 => ?_) (fun c1 => ⟨_, rfl, iteF ⟨vs, ss, hG, keep_less pv ho (by rw [Bool.eq_false_iff.mpr c1]; rfl)⟩⟩)
          refine ⟨_, rfl, t1, _, 1, _, rfl, rfl, SqT.hp eo, rfl, _, _, rfl, rfl, _, rfl, ?_⟩
          refine ite2 (fun c2 => ?_) (fun c2 => ⟨vs, ss, hG, keep_less pv ho (by rw [Bool.eq_false_iff.mpr c2, Bool.and_false])⟩)
          exact ⟨_, rfl, vs.map V.ref, hG, sml, keep_more ss nG hG pv eo ho (by rw [c1, c2]; rfl)⟩
        · rintro H4 ⟨vs, s4, hG, pv⟩
          rw [List.length_map, lus, List.take_length] at pv
          refine ⟨Nat.zero_le _, fun L nL => ?_⟩
          have sL := Same.new (o := .lst []) nL
          have s34 := s4.trans sL
          refine ⟨.list ((F.filter fun o => decide (o.1 < p.1) && decide (p.1 ≤ o.2)).map prD), .list [], .lst (SqL.hp (sL _ _ hG)) (pv.same sL).dp, .lst (SqL.hp upd_same) .nil, shapedPs _, shapedNil, _, rfl, ?_⟩
          rw [eqvNil]
          have hB4 := s34 _ _ hB
          have hC4 := s34 _ _ hC
          have s14 := s3.trans s34
          generalize upd H4 L (.lst []) = H5 at *
          refine ite2 (fun c => ?_) (fun c => ?_)
          · have c : uncB F p.1 = true := c
            refine ⟨_, rfl, .inl ⟨rfl, _, SqL.hp hB4⟩, _, rfl, B, _, _, rfl, rfl, hB4, by rw [List.length_map]; exact small1000 (Nat.le_trans bgs_len (by omega)), ?_⟩
            exact ⟨rfl, by rw [upd_same, bgs_yes hp c, List.map_append]; rfl, by rw [upd_ne (Ne.symm nBC)]; exact hC4, fun b o e => by rw [upd_ne (ne_of_none e nB)]; exact s14 _ _ e⟩
          · have c : ¬ uncB F p.1 = true := c
            exact ⟨rfl, by rw [bgs_no hp c]; exact hB4, hC4, s14⟩
      · rintro σ H3 ⟨rfl, hB, hC, s3⟩
        refine ⟨_, rfl, D, _, rfl, .inl (SqL.hp (s3 _ _ hD)), fun J wk G nG => ?_⟩
        refine lc_it wk (fun k H' => ∃ vs, Same H3 H' ∧ H' G = some (.lst (vs.map V.ref)) ∧ Pd H' vs ((F.take k).filter fun o => decide (o.1 ≤ p.2) && decide (p.2 < o.2))) ⟨[], Same.new nG, upd_same, trivial⟩ (fun k H' _ h => sameK h.choose_spec.1) ?_ ?_
        · rintro k x H4 H5 hk ⟨vs, ss, hG, pv⟩ ⟨rfl, hx⟩
          obtain ⟨t1, ht1, rfl⟩ := map_get hx
          obtain ⟨o, ho, eo0⟩ := Pd.get pu ht1
          have eo := ss _ _ (s3 _ _ eo0)
          have sml : (vs.map V.ref).length < sizeLine := by
            have := pv.len
            have := filt_len (f := fun o : Pr => decide (o.1 ≤ p.2) && decide (p.2 < o.2)) (ps := F) (i := k)
            rw [List.length_map]
            exact small1000 (by omega)
          refine ⟨rfl, ?_⟩
          refine ⟨_, rfl, t1, _, 0, _, rfl, rfl, SqT.hp eo, rfl, _, rfl, _, _, rfl, rfl, _, rfl, ?_⟩
          refine ite2 (fun c1 => ?_) (fun c1 => ⟨_, rfl, iteF ⟨vs, ss, hG, keep_less pv ho (by rw [Bool.eq_false_iff.mpr c1]; rfl)⟩⟩)
          refine ⟨_, rfl, t1, _, 1, _, rfl, rfl, SqT.hp eo, rfl, _, _, rfl, rfl, _, rfl, ?_⟩
          refine ite2 (fun c2 => ?_) (fun c2 => ⟨vs, ss, hG, keep_less pv ho (by rw [Bool.eq_false_iff.mpr c2, Bool.and_false])⟩)
          exact ⟨_, rfl, vs.map V.ref, hG, sml, keep_more ss nG hG pv eo ho (by rw [c1, c2]; rfl)⟩
        · rintro H4 ⟨vs, s4, hG, pv⟩
          rw [List.length_map, lus, List.take_length] at pv
          refine ⟨Nat.zero_le _, fun L nL => ?_⟩
          have sL := Same.new (o := .lst []) nL
          have s34 := s4.trans sL
          refine ⟨.list ((F.filter fun o => decide (o.1 ≤ p.2) && decide (p.2 < o.2)).map prD), .list [], .lst (SqL.hp (sL _ _ hG)) (pv.same sL).dp, .lst (SqL.hp upd_same) .nil, shapedPs _, shapedNil, _, rfl, ?_⟩
          rw [eqvNil]
          have hB4 := s34 _ _ hB
          have hC4 := s34 _ _ hC
          have s14 := s3.trans s34
          generalize upd H4 L (.lst []) = H5 at *
          refine ite2 (fun c => ?_) (fun c => ?_)
          · have c : uncE F p.2 = true := c
            refine ⟨_, rfl, .inl ⟨rfl, _, SqL.hp hC4⟩, _, rfl, C, _, _, rfl, rfl, hC4, by rw [List.length_map]; exact small1000 (Nat.le_trans ens_len (by omega)), ?_⟩
            exact ⟨⟨_, _, rfl⟩, by rw [upd_ne nBC]; exact hB4, by rw [upd_same, ens_yes hp c, List.map_append]; rfl, fun b o e => by rw [upd_ne (ne_of_none e nC1)]; exact s14 _ _ e⟩
          · have c : ¬ uncE F p.2 = true := c
            exact ⟨⟨_, _, rfl⟩, hB4, by rw [ens_no hp c]; exact hC4, s14⟩
    · rintro σ H3 ⟨⟨y5, y6, rfl⟩, hB, hC, s3⟩
      rw [List.length_map, lus] at hB hC
      have lB := bgs_len (F := F) (i := F.length)
      have lC := ens_len (F := F) (i := F.length)
      have eB : bgs F F.length = begL F := by unfold bgs begL; rw [List.take_length]
      have eC : ens F F.length = endL F := by unfold ens endL; rw [List.take_length]
      rw [eB] at hB lB
      rw [eC] at hC lC
      refine ⟨_, rfl, B, begL F, rfl, SqL.hp hB, by omega, fun A2 n2 nA2 => ⟨A2, _, n2, rfl, upd_same, fun nb rb pwb memb nrb => ?_⟩⟩
      refine ⟨_, rfl, C, endL F, rfl, SqL.hp (((Same.new nA2).trans (Same.new nrb)) _ _ hC), by omega, fun A3 n3 nA3 => ⟨A3, _, n3, rfl, upd_same, fun ne re pwe meme nre => ?_⟩⟩
      have ebB := beg_union (z := z) (ps := ps) pwb fun k => by rw [memb k, decide_eq_true_eq, ← eF]
      have ebC := end_union (z := z) (ps := ps) pwe fun k => by rw [meme k, decide_eq_true_eq, ← eF]
      refine ⟨rb, re, _, _, rfl, SqL.hp (((Same.new nA3).trans (Same.new nre)) _ _ upd_same), SqL.hp upd_same, fun r ts' H' nr hr lr gt sR => ?_⟩
      have s36 := ((Same.new nA2).trans (Same.new nrb)).trans (((Same.new nA3).trans (Same.new nre)).trans sR)
      refine q r ts' H' ((s1.trans s3).free (upd_free (upd_free (upd_free (upd_free nr))))) hr (Pd.ofAt ?_ fun i t p h1 h2 => ?_) ((s1.trans s3).trans s36)
      · rw [lr, List.length_map, List.length_map, ebB, ebC, List.length_map, List.length_map, Nat.min_self]
      · obtain ⟨x, y, h3, h4, h5⟩ := gt i t h1
        rw [ebB, List.getElem?_map, List.getElem?_map, h2] at h3
        rw [ebC, List.getElem?_map, List.getElem?_map, h2] at h4
        obtain rfl : V.int p.1 = x := Option.some.inj h3
        obtain rfl : V.int p.2 = y := Option.some.inj h4
        exact h5
end
/-! _law_right -/
abbrev s_l_right : Stmt := topS 27
abbrev sc_l_right_N : List Str := ["_law_rows", "_law_mode", "_law_is_by_name", "_law_kept", "_law_told", "_law_moment", "_law_many", "_law_k", "_law_pair", "_law_turned", "_law_span"]
theorem sc_l_right : FnScope sc_l_right_N ["_law_rows", "_law_mode", "_law_is_by_name"] (defScope s_l_right) := ⟨rfl, rfl, rfl, by decide +kernel, rfl, by decide +kernel, by decide +kernel⟩
def sp_l_right (K : PySem.W.Frag) : Sp := fun vs H Q _ => ∃ (a : Addr) (ts : List Addr) (ps : List Pr) (z nm : Bool), vs = [.ref a, endsV z, .bl nm] ∧ H a = some (.lst (ts.map V.ref)) ∧ Pd H ts ps ∧ (∀ p ∈ ps, strP p = true) ∧ ps.length ≤ 60 ∧ ∀ H', Same H H' → Q (.bl true) H'
section
variable {P : Program} {w : World} {K : PySem.W.Frag} {mg : Str → Option Value} {bh : Heap}
theorem ok_l_right {f : Addr} {fd : FuncData} {f_l_moments : Addr} {fd_l_moments : FuncData} {f_union : Addr} {fd_union : FuncData} {f_l_pairs_right : Addr} {fd_l_pairs_right : FuncData} {f_l_due : Addr} {fd_l_due : FuncData} {f_in_one_form : Addr} {fd_in_one_form : FuncData} {f_l_holds : Addr} {fd_l_holds : FuncData} (B : Blt mg) (T : Txt K mg) (R_l_moments : Rdy P w K mg bh "_law_moments" 1 ["_law_pairs"] (sp_l_moments K) f_l_moments fd_l_moments) (R_union : RdyD P w K mg bh "union" 6 ["spans", "ends"] [.str "half"] (sp_union K) f_union fd_union) (kw_union : KBn K fd_union ["spans", "ends"] 0 ["ends", "spans"] (fun _ ws => List.reverse ws) (fun _ zs => List.reverse zs)) (R_l_pairs_right : Rdy P w K mg bh "_law_pairs_right" 1 ["_law_found", "_law_count"] (sp_l_pairs_right K) f_l_pairs_right fd_l_pairs_right) (R_l_due : Rdy P w K mg bh "_law_due" 1 ["_law_rows", "_law_mode"] (sp_l_due K) f_l_due fd_l_due) (R_in_one_form : RdyD P w K mg bh "in_one_form" 7 ["spans", "ends"] [.str "half"] (sp_in_one_form K) f_in_one_form fd_in_one_form) (R_l_holds : Rdy P w K mg bh "_law_holds" 1 ["_law_pair", "_law_moment", "_law_mode"] (sp_l_holds K) f_l_holds fd_l_holds) (F : Fun K "_law_right" "_law_right" s_l_right f fd) : FnOk P w K mg bh CX0 8 f fd ["_law_rows", "_law_mode", "_law_is_by_name"] (sp_l_right K) := by
  refine F.ok sc_l_right (fun vs H Q E h => ?_) (fun cdv A outer s H vs Q E hr h => ?_)
  · obtain ⟨a, ts, ps, z, nm, rfl, _⟩ := h
    rfl
  · obtain ⟨a, ts, ps, z, nm, rfl, ha, pd, hst, hlen, q⟩ := h
    refine ⟨_, (pss_cons (ps_set (i := 3) sc_l_right.nd rfl (Or.inl rfl) (pe_callTy call_list_of (by rfl) B.b_list (by decide +kernel) (pa_cons (pv 0) pa_nil)))
      (pss_mid (ps_set (i := 4) sc_l_right.nd rfl (Or.inl rfl) (pe_ifExp (pt_truth (pv 2) (by intro _; rfl)) (pe_kw0 R_union.ok hr (by decide) (by rfl) R_union.gl R_union.kp kw_union (pk_cons (pv 1) (pk_cons (pv 0) pk_nil))) (pe_rdyD R_union hr (by decide) (by rfl) (pa_cons (pv 0) (pa_cons (pv 1) pa_nil)))))
      (pss_cons (ps_if (PW.pt (pw_or (pt_not (pt_val (pe_rdy R_l_pairs_right hr (by decide) (by rfl) (pa_cons (pv 4) (pa_cons (pe_callB call_len_seq (by rfl) B.b_len (by decide +kernel) (pa_cons (pv 0) pa_nil)) pa_nil))))) (pw_or (pt_cmpR (op_neD hr.units) (pe_callTy call_list_of (by rfl) B.b_list (by decide +kernel) (pa_cons (pv 0) pa_nil)) (pv 3) (nomark _)) (pw_or1 (pt_cmpR (op_neD hr.units) (pv 4) (pe_rdy R_l_due hr (by decide) (by rfl) (pa_cons (pv 0) (pa_cons (pv 1) pa_nil))) (nomark _))))))
      (pss_one (ps_ret pe_bl))
      pss_nil)
      (pss_cons (ps_for PassesOwn.never rfl (pi_list (pe_rdy R_l_moments hr (by decide) (by rfl) (pa_cons (pe_callTy call_list_of (by rfl) B.b_list (by decide +kernel) (pa_cons (pv 0) pa_nil)) pa_nil))) (pg_name (i := 5) sc_l_right.nd rfl (Or.inr rfl))
      (pss_cons (ps_set (i := 6) sc_l_right.nd rfl (Or.inl rfl) (pe_callB call_len_seq (by rfl) B.b_len (by decide +kernel) (pa_cons (pe_lc (own := [("_law_pair", 8)]) (by rfl) sc_l_right.nd (pi_sq (pv 4)) (blkOk_by (own := [("_law_pair", 8)]) (N := sc_l_right_N) (sc := defScope s_l_right) (by decide +kernel)) (fun _ _ _ _ _ => (pg_name (i := 8) sc_l_right.nd rfl (Or.inl rfl))) (fun _ _ _ _ _ => (pts_one (pt_val (pe_rdy R_l_holds hr (by decide) (by rfl) (pa_cons (pv 8) (pa_cons (pv 5) (pa_cons (pv 1) pa_nil))))))) (fun _ _ _ _ _ => (pv 8))) pa_nil)))
      (pss_one (ps_if (pt_cmpR op_ne (pv 6) (pe_callTy call_int1 (by rfl) B.b_int (by decide +kernel) (pa_cons (pe_cmpR (op_neD hr.units) (pe_lc (own := [("_law_span", 10)]) (by rfl) sc_l_right.nd (pi_sq (pv 0)) (blkOk_by (own := [("_law_span", 10)]) (N := sc_l_right_N) (sc := defScope s_l_right) (by decide +kernel)) (fun _ _ _ _ _ => (pg_name (i := 10) sc_l_right.nd rfl (Or.inl rfl))) (fun _ _ _ _ _ => (pts_one (pt_val (pe_rdy R_l_holds hr (by decide) (by rfl) (pa_cons (pv 10) (pa_cons (pv 5) (pa_cons (pv 1) pa_nil))))))) (fun _ _ _ _ _ => (pv 10))) (pe_lst pa_nil) (nomark _)) pa_nil)) (nomark _))
      (pss_one (ps_ret pe_bl))
      pss_nil))))
      (pss_cons (ps_for PassesOwn.never rfl (pi_en (by rfl) B.b_enumerate (pa_cons (pv 4) pa_nil)) (pg_tup (by rfl) (pgs_cons (pg_name (i := 7) sc_l_right.nd rfl (Or.inl rfl)) (pgs_cons (pg_name (i := 8) sc_l_right.nd rfl (Or.inl rfl)) pgs_nil)))
      (pss_one (ps_if (PW.pt (pw_or (pt_cmpR op_gt (pe_ix ix_tup (pv 8) pe_int (fun _ _ => rfl)) (pe_ix ix_tup (pv 8) pe_int (fun _ _ => rfl)) (nomark _)) (pw_or (PW.pt (pw_and (pt_cmpR op_eq (pv 1) pe_str (nomark _)) (pw_and1 (pt_cmpR op_eq (pe_ix ix_tup (pv 8) pe_int (fun _ _ => rfl)) (pe_ix ix_tup (pv 8) pe_int (fun _ _ => rfl)) (nomark _))))) (pw_or1 (PW.pt (pw_and (pt_cmpR op_gt (pv 7) pe_int (nomark _)) (pw_and1 (pt_cmpR op_ge (pe_ix ix_tup (pe_ix ix_list (pv 4) (pe_op op_sub (pv 7) pe_int) (fun _ _ => rfl)) pe_int (fun _ _ => rfl)) (pe_ix ix_tup (pv 8) pe_int (fun _ _ => rfl)) (nomark _)))))))))
      (pss_one (ps_ret pe_bl))
      pss_nil)))
      (pss_cons (ps_if (PW.pt (pw_or (pt_cmpR op_isnot_bl (pe_rdyD R_in_one_form hr (by decide) (by rfl) (pa_cons (pe_callTy call_list_of (by rfl) B.b_list (by decide +kernel) (pa_cons (pv 4) pa_nil)) (pa_cons (pv 1) pa_nil))) pe_bl (nomark _)) (pw_or1 (pt_cmpR (op_neD hr.units) (pe_rdyD R_union hr (by decide) (by rfl) (pa_cons (pe_callTy call_list_of (by rfl) B.b_list (by decide +kernel) (pa_cons (pv 4) pa_nil)) (pa_cons (pv 1) pa_nil))) (pv 4) (nomark _)))))
      (pss_one (ps_ret pe_bl))
      pss_nil)
      (pss_cons (ps_set (i := 9) sc_l_right.nd rfl (Or.inl rfl) (pe_rdyD R_union hr (by decide) (by rfl) (pa_cons (pe_listRev (by rfl) B.b_list (by rfl) B.b_reversed (by rfl) (pe_callTy call_list_of (by rfl) B.b_list (by decide +kernel) (pa_cons (pv 3) pa_nil))) (pa_cons (pv 1) pa_nil))))
      (pss_cons (ps_expr (pe_bm PySem.F.plainAttrs_list PySem.F.slot_list_append PySem.F.type_list_append mt_append (pv 4) (pa_cons (pe_tup (pa_cons pe_int (pa_cons pe_int pa_nil))) pa_nil)))
      (pss_one (ps_ret (pe_and (pe_cmpR (op_eqD hr.units) (pv 9) (pe_slice sl_list (pv 4) po_none (po_some (pe_un un_neg pe_int))) (nomark _)) (pe_and (pe_cmpR (op_eqD hr.units) (pe_rdyD R_union hr (by decide) (by rfl) (pa_cons (pe_callTy call_tuple_of (by rfl) B.b_tuple (by decide +kernel) (pa_cons (pv 3) pa_nil)) (pa_cons (pv 1) pa_nil))) (pv 9) (nomark _)) (pe_one (pe_cmpR (op_eqD hr.units) (pe_callTy call_list_of (by rfl) B.b_list (by decide +kernel) (pa_cons (pv 0) pa_nil)) (pv 3) (nomark _))))))))))))))), ?_⟩
    have lts := pd.len
    have o1 := union_one z ps
    have hle : ∀ p ∈ ps, p.1 ≤ p.2 := fun p hp => strP_le (hst p hp)
    have lU : (unionM z ps).length ≤ ps.length := by rw [← pieces_is hle]; exact pieces_len
    have gt : ∀ x ∈ unionM z ps, strP x = true := union_keeps (G := fun p => strP p = true) (fun c p hc hp e => strP_ext hc hp e) hst
    have l1 : ps.length ≤ 1000 := by omega
    refine ⟨_, rfl, a, _, rfl, .inl (SqL.hp ha), fun k nk => ?_⟩
    have sk := Same.new (o := .lst (ts.map V.ref)) nk
    have hk : (upd H k (.lst (ts.map V.ref))) k = some (.lst (ts.map V.ref)) := upd_same
    generalize upd H k (.lst (ts.map V.ref)) = H1 at *
    have ha1 := sk _ _ ha
    have pd1 := pd.same sk
    refine ⟨fun σ H' => ∃ r us, σ = [some (.ref a), some (endsV z), some (.bl nm), some (.ref k), some (.ref r), none, none, none, none, none, none] ∧ H' r = some (.lst ((us : List Addr).map V.ref)) ∧ Pd H' us (unionM z ps) ∧ H1 r = none ∧ Same H1 H', ?_, ?_⟩
    · refine ⟨_, rfl, nm, rfl, ?_⟩
      refine ite2 (fun _ => ?_) (fun _ => ?_)
      · exact ⟨_, rfl, _, rfl, rfl, rfl, a, ts, ps, z, rfl, .inl (SqL.hp ha1), pd1, hst, l1, fun r us H2 nr hr pu s2 => ⟨r, us, rfl, hr, pu, nr, s2⟩⟩
      · exact ⟨_, rfl, _, rfl, a, ts, ps, z, rfl, .inl (SqL.hp ha1), pd1, hst, l1, fun r us H2 nr hr pu s2 => ⟨r, us, rfl, hr, pu, nr, s2⟩⟩
    rintro σ H2 ⟨r, us, rfl, hr, pu, nr, s2⟩
    have nra : a ≠ r := ne_of_none ha1 nr
    have nrk : k ≠ r := ne_of_none hk nr
    have nrH : H r = none := sk.free nr
    have s02 := sk.trans s2
    have ha := s2 _ _ ha1
    have hk := s2 _ _ hk
    have pd := pd1.same s2
    have lus := pu.len
    clear ha1 pd1 nr nk
    -- the first if
    refine ⟨_, rfl, _, rfl, a, _, rfl, .inl (SqL.hp ha), r, us, _, _, rfl, SqL.hp hr, pu, by rw [List.length_map, lts]; omega, _, rfl, iteFe rfl ?_⟩
    refine ⟨_, rfl, a, _, rfl, .inl (SqL.hp ha), fun L nL => ?_⟩
    have sL := Same.new (o := .lst (ts.map V.ref)) nL
    refine ⟨_, rfl, .list (ps.map prD), .list (ps.map prD), .lst (SqL.hp upd_same) (pd.same sL).dp, .lst (SqL.hp (sL _ _ hk)) (pd.same sL).dp, shapedPs _, shapedPs _, _, rfl, iteFe (eqv_self ps) ?_⟩
    have s02 := s02.trans sL
    have ha := sL _ _ ha
    have hk := sL _ _ hk
    have hr := sL _ _ hr
    have pd := pd.same sL
    have pu := pu.same sL
    generalize upd H2 L (.lst (ts.map V.ref)) = H3 at *
    refine ⟨_, rfl, _, rfl, _, rfl, a, ts, ps, z, rfl, SqL.hp ha, pd, hst, by omega, fun r3 us3 H4 _ hr3 pu3 s4 => ?_⟩
    refine ⟨.list ((unionM z ps).map prD), .list ((unionM z ps).map prD), .lst (SqL.hp (s4 _ _ hr)) (pu.same s4).dp, .lst (SqL.hp hr3) pu3.dp, shapedPs _, shapedPs _, _, rfl, iteFe (eqv_self _) ?_⟩
    have s02 := s02.trans s4
    have ha := s4 _ _ ha
    have hk := s4 _ _ hk
    have hr := s4 _ _ hr
    have pd := pd.same s4
    have pu := pu.same s4
    -- the moments
    refine ⟨_, rfl, a, _, rfl, .inl (SqL.hp ha), fun L nL => ?_⟩
    have sL := Same.new (o := .lst (ts.map V.ref)) nL
    refine ⟨L, ts, ps, rfl, SqL.hp upd_same, pd.same sL, by omega, fun rm ms H5 _ hm5 s5 => ⟨rm, rfl, ⟨_, SqL.hp hm5⟩, ?_⟩⟩
    have s45 := sL.trans s5
    have s02 := s02.trans s45
    have ha := s45 _ _ ha
    have hk := s45 _ _ hk
    have hr := s45 _ _ hr
    have pd := pd.same s45
    have pu := pu.same s45
    clear s45 s5 sL nL s4 hr3 pu3
    refine for_list (K := K) (a := rm) (xs := ms.map V.int) (fun i σ H' => (∃ y5 y6, σ = [some (.ref a), some (endsV z), some (.bl nm), some (.ref k), some (.ref r), y5, y6, none, none, none, none]) ∧ Same H5 H') ⟨⟨_, _, rfl⟩, Same.refl _⟩ (fun i σ H' _ h => SqL.hp (h.2 _ _ hm5)) ?_ ?_
    · rintro i x σ H6 hx ⟨⟨y5, y6, rfl⟩, s6⟩
      obtain ⟨m, hm, rfl⟩ := map_get hx
      refine ⟨_, rfl, r, _, rfl, .inl (SqL.hp (s6 _ _ hr)), fun J wk D nD => ?_⟩
      refine lc_it wk (fun i H' => ∃ vs, Same H6 H' ∧ H' D = some (.lst (vs.map V.ref)) ∧ Pd H' vs (((unionM z ps).take i).filter fun p => hldB z p m)) ⟨[], Same.new nD, upd_same, trivial⟩ (fun i H' _ h => sameK h.choose_spec.1) ?_ ?_
      · rintro i x H7 H8 hi ⟨vs, ss, hD, pv⟩ ⟨rfl, hx⟩
        obtain ⟨t1, ht, rfl⟩ := map_get hx
        obtain ⟨p, hp, et0⟩ := Pd.get pu ht
        have et := ss _ _ (s6 _ _ et0)
        have le := strP_le (gt p (List.mem_of_getElem? hp))
        have sml : (vs.map V.ref).length < sizeLine := by
          have := pv.len
          have := filt_len (f := fun p => hldB z p m) (ps := unionM z ps) (i := i)
          rw [List.length_map]
          exact small1000 (by omega)
        refine ⟨rfl, ?_⟩
        refine ⟨_, rfl, _, rfl, _, rfl, t1, p, m, z, rfl, SqT.hp et, le, _, rfl, ?_⟩
        refine ite2 (fun c => ⟨_, rfl, vs.map V.ref, hD, sml, keep_more ss nD hD pv et hp c⟩) (fun c => ⟨vs, ss, hD, keep_less pv hp (Bool.eq_false_iff.mpr c)⟩)
      rintro H7 ⟨vs, s7, hD, pv⟩
      rw [List.length_map, lus, List.take_length] at pv
      refine ⟨D, _, rfl, .inl (SqL.hp hD), ?_⟩
      rw [List.length_map, pv.len]
      have s67 := s6.trans s7
      clear wk
      refine ⟨_, rfl, _, rfl, a, _, rfl, .inl (SqL.hp (s67 _ _ ha)), fun J wk G nG => ?_⟩
      refine lc_it wk (fun i H' => ∃ vs, Same H7 H' ∧ H' G = some (.lst (vs.map V.ref)) ∧ Pd H' vs ((ps.take i).filter fun p => hldB z p m)) ⟨[], Same.new nG, upd_same, trivial⟩ (fun i H' _ h => sameK h.choose_spec.1) ?_ ?_
      · rintro i x H8 H9 hi ⟨ws, ss, hG, pw⟩ ⟨rfl, hx⟩
        obtain ⟨t1, ht, rfl⟩ := map_get hx
        obtain ⟨p, hp, et0⟩ := Pd.get pd ht
        have et := ss _ _ (s67 _ _ et0)
        have le := hle p (List.mem_of_getElem? hp)
        have sml : (ws.map V.ref).length < sizeLine := by
          have := pw.len
          have := filt_len (f := fun p => hldB z p m) (ps := ps) (i := i)
          rw [List.length_map]
          exact small1000 (by omega)
        refine ⟨rfl, ?_⟩
        refine ⟨_, rfl, _, rfl, _, rfl, t1, p, m, z, rfl, SqT.hp et, le, _, rfl, ?_⟩
        refine ite2 (fun c => ⟨_, rfl, ws.map V.ref, hG, sml, keep_more ss nG hG pw et hp c⟩) (fun c => ⟨ws, ss, hG, keep_less pw hp (Bool.eq_false_iff.mpr c)⟩)
      rintro H8 ⟨ws, s8, hG, pw⟩
      rw [List.length_map, lts, List.take_length] at pw
      refine ⟨Nat.zero_le _, fun L nL => ?_⟩
      have sL := Same.new (o := .lst []) nL
      refine ⟨.list ((ps.filter fun p => hldB z p m).map prD), .list [], .lst (SqL.hp (sL _ _ hG)) (pw.same sL).dp, .lst (SqL.hp upd_same) .nil, shapedPs _, shapedNil, .inr ⟨_, rfl, rfl, _, rfl, iteFe ?_ ⟨⟨_, _, rfl⟩, s67.trans (s8.trans sL)⟩⟩⟩
      have hu := hld_union (z := z) (ps := ps) m
      rw [eqvNil, hu]
      simp
    rintro σ H6 ⟨⟨y5, y6, rfl⟩, s6⟩
    have s02 := s02.trans s6
    have ha := s6 _ _ ha
    have hk := s6 _ _ hk
    have hr := s6 _ _ hr
    have pd := pd.same s6
    have pu := pu.same s6
    clear hm5 s6
    -- the pairs in their order
    refine ⟨_, rfl, r, _, rfl, .inl (SqL.hp hr), fun J wk => ?_⟩
    refine for_it wk (fun i σ H' => (∃ y7 y8, σ = [some (.ref a), some (endsV z), some (.bl nm), some (.ref k), some (.ref r), y5, y6, y7, y8, none, none]) ∧ Same H6 H') ⟨⟨_, _, rfl⟩, Same.refl _⟩ (fun i σ H' _ h => sameK h.2) ?_ ?_
    · rintro i x σ H7 H8 hi ⟨⟨y7, y8, rfl⟩, s7⟩ ⟨T, x1, x2, rfl, hT, rfl, e1, e2⟩
      obtain rfl : x1 = .int (i : Nat) := (Option.some.inj e1).symm
      obtain ⟨t, ht, rfl⟩ := map_get e2
      obtain ⟨p, hp, et0⟩ := Pd.get pu ht
      have full := oneF_full o1 p (List.mem_of_getElem? hp)
      have le := strP_le (gt p (List.mem_of_getElem? hp))
      have s7 := s7.trans (Same.new (o := .tup [.int (i : Nat), .ref t]) hT)
      have et := s7 _ _ et0
      refine ⟨T, _, rfl, SqT.hp upd_same, rfl, _, _, rfl, _, _, rfl, rfl, ?_⟩
      generalize upd H7 T (.tup [.int (i : Nat), .ref t]) = H9 at *
      have prev : (0 : Int) < ((i : Nat) : Int) → ∃ j t' q', i = j + 1 ∧ us[j]? = some t' ∧ (unionM z ps)[j]? = some q' ∧ H6 t' = some (.tup [.int q'.1, .int q'.2]) := by
        intro c
        have l1 : i < us.length := (List.getElem?_eq_some_iff.mp ht).1
        have h1 : us[i - 1]? = some us[i - 1] := List.getElem?_eq_getElem (by omega)
        obtain ⟨q', hq, et'⟩ := Pd.get pu h1
        exact ⟨i - 1, _, q', by omega, h1, hq, et'⟩
      have gapP : ∀ (j : Nat) (q' p : Pr), (unionM z ps)[j]? = some q' → (unionM z ps)[j + 1]? = some p → q'.2 < p.1 := fun j q' p h1 h2 => by
        have b1 := (List.getElem?_eq_some_iff.mp h1)
        have b2 := (List.getElem?_eq_some_iff.mp h2)
        obtain ⟨c1, d1⟩ := b1
        obtain ⟨c2, d2⟩ := b2
        have := List.pairwise_iff_getElem.mp (oneF_pw o1) j (j + 1) c1 c2 (Nat.lt_succ_self _)
        rw [d1, d2] at this
        exact this
      refine ⟨_, rfl, t, _, 0, _, rfl, rfl, SqT.hp et, rfl, _, rfl, t, _, 1, _, rfl, rfl, SqT.hp et, rfl, _, _, rfl, rfl, _, rfl, iteFe (decide_eq_false (by omega)) ?_⟩
      refine ⟨_, rfl, endsV_scalH z, _, rfl, ?_⟩
      rw [endsV_half]
      refine ite2 (fun cz => ?_) (fun cz => ?_)
      · refine ⟨_, rfl, t, _, 0, _, rfl, rfl, SqT.hp et, rfl, _, rfl, t, _, 1, _, rfl, rfl, SqT.hp et, rfl, rfl, _, rfl, iteFe (decide_eq_false fun h => ?_) ?_⟩
        · have h := V.int.inj h
          have cz : z = false := by simpa using cz
          subst cz
          unfold emp at full
          simp at full
          omega
        · refine ⟨_, rfl, _, _, rfl, rfl, _, rfl, ?_⟩
          refine ite2 (fun c => ?_) (fun c => iteF ⟨⟨_, _, rfl⟩, s7⟩)
          obtain ⟨j, t', q', rfl, ht', hq, et'⟩ := prev (of_decide_eq_true c)
          refine ⟨_, rfl, _, rfl, _, _, rfl, rfl, r, _, _, .ref t', rfl, rfl, SqL.hp (s7 _ _ hr), at_of (j := j) (by omega) (by rw [List.getElem?_map, ht']; rfl), t', _, 1, _, rfl, rfl, SqT.hp (s7 _ _ et'), rfl, _, rfl, t, _, 0, _, rfl, rfl, SqT.hp et, rfl, _, _, rfl, rfl, _, rfl, iteFe (decide_eq_false (by have := gapP j q' p hq hp; omega)) ⟨⟨_, _, rfl⟩, s7⟩⟩
      · refine iteF ?_
        refine ⟨_, rfl, _, _, rfl, rfl, _, rfl, ?_⟩
        refine ite2 (fun c => ?_) (fun c => iteF ⟨⟨_, _, rfl⟩, s7⟩)
        obtain ⟨j, t', q', rfl, ht', hq, et'⟩ := prev (of_decide_eq_true c)
        refine ⟨_, rfl, _, rfl, _, _, rfl, rfl, r, _, _, .ref t', rfl, rfl, SqL.hp (s7 _ _ hr), at_of (j := j) (by omega) (by rw [List.getElem?_map, ht']; rfl), t', _, 1, _, rfl, rfl, SqT.hp (s7 _ _ et'), rfl, _, rfl, t, _, 0, _, rfl, rfl, SqT.hp et, rfl, _, _, rfl, rfl, _, rfl, iteFe (decide_eq_false (by have := gapP j q' p hq hp; omega)) ⟨⟨_, _, rfl⟩, s7⟩⟩
    rintro σ H7 ⟨⟨y7, y8, rfl⟩, s7⟩
    have s02 := s02.trans s7
    have ha := s7 _ _ ha
    have hk := s7 _ _ hk
    have hr := s7 _ _ hr
    have pd := pd.same s7
    have pu := pu.same s7
    clear wk s7
    -- in one form, its own union
    refine ⟨_, rfl, r, _, rfl, .inl (SqL.hp hr), fun L nL => ?_⟩
    have sL := Same.new (o := .lst (us.map V.ref)) nL
    refine ⟨_, rfl, L, us, unionM z ps, z, rfl, .inl (SqL.hp upd_same), pu.same sL, gt, by omega, fun H8 s8 => ⟨_, _, rfl, rfl, _, rfl, iteFe (by rw [o1]; rfl) ?_⟩⟩
    have s78 := sL.trans s8
    refine ⟨_, rfl, r, _, rfl, .inl (SqL.hp (s78 _ _ hr)), fun L2 nL2 => ?_⟩
    have sL2 := Same.new (o := .lst (us.map V.ref)) nL2
    have s79 := s78.trans sL2
    refine ⟨_, rfl, L2, us, unionM z ps, z, rfl, .inl (SqL.hp upd_same), pu.same s79, gt, by omega, fun r5 us5 H9 _ hr5 pu5 s9 => ?_⟩
    have s79 := s79.trans s9
    refine ⟨_, rfl, .list ((unionM z (unionM z ps)).map prD), .list ((unionM z ps).map prD), .lst (SqL.hp hr5) pu5.dp, .lst (SqL.hp (s79 _ _ hr)) (pu.same s79).dp, shapedPs _, shapedPs _, _, rfl, iteFe (eqv_neq (union_union z ps)) ?_⟩
    have s02 := s02.trans s79
    have ha := s79 _ _ ha
    have hk := s79 _ _ hk
    have hr := s79 _ _ hr
    have pd := pd.same s79
    have pu := pu.same s79
    clear s79 s9 s78 s8 sL sL2 nL nL2 hr5 pu5
    -- turned
    refine ⟨_, rfl, k, _, rfl, .inl (SqL.hp hk), fun L nL => ⟨L, _, rfl, SqL.hp upd_same, fun Rv nRv => ?_⟩⟩
    have sR := (Same.new (o := .lst (ts.map V.ref)) nL).trans (Same.new (o := .lst (ts.map V.ref).reverse) nRv)
    have hRv : (upd (upd H9 L (.lst (ts.map V.ref))) Rv (.lst (ts.map V.ref).reverse)) Rv = some (.lst (ts.reverse.map V.ref)) := by rw [upd_same, List.map_reverse]
    generalize upd (upd H9 L (.lst (ts.map V.ref))) Rv (.lst (ts.map V.ref).reverse) = H10 at *
    refine ⟨_, rfl, Rv, ts.reverse, ps.reverse, z, rfl, .inl (SqL.hp hRv), Pd.rev (pd.same sR), (fun v hv => hst v (List.mem_reverse.mp hv)), by rw [List.length_reverse]; omega, fun ru uu H11 nru hru puu s11 => ?_⟩
    have s911 := sR.trans s11
    have nrur : ru ≠ r := Ne.symm (ne_of_none (sR _ _ hr) nru)
    have s02 := s02.trans s911
    have ha := s911 _ _ ha
    have hk := s911 _ _ hk
    have hr := s911 _ _ hr
    have pd := pd.same s911
    have pu := pu.same s911
    clear s911 s11 sR hRv nRv nL
    -- told grows
    refine ⟨_, rfl, .inl ⟨rfl, _, SqL.hp hr⟩, (by show 2 ≤ sizeLine; decide), fun T nT => ?_⟩
    have sT := Same.new (o := .tup [.int 1, .int 0]) nT
    refine ⟨r, _, _, rfl, rfl, sT _ _ hr, by rw [List.length_map]; exact small1000 (by omega), ?_⟩
    have kr : Kp r H11 (upd (upd H11 T (.tup [.int 1, .int 0])) r (.lst (us.map V.ref ++ [.ref T]))) := (Kp.same sT).trans Kp.at_
    have notup : ∀ xs, H11 r ≠ some (.tup xs) := fun xs h => by rw [hr] at h; cases h
    have hrT : (upd (upd H11 T (.tup [.int 1, .int 0])) r (.lst (us.map V.ref ++ [.ref T]))) r = some (.lst (us.map V.ref ++ [.ref T])) := upd_same
    have sfin : Same H (upd (upd H11 T (.tup [.int 1, .int 0])) r (.lst (us.map V.ref ++ [.ref T]))) := fun b o e => by
      rw [upd_ne (ne_of_none e nrH)]
      exact sT _ _ (s02 _ _ e)
    have ha := kr _ _ nra ha
    have hk := kr _ _ nrk hk
    have hru := kr _ _ nrur hru
    have pd := pd.kp kr notup
    have pu := pu.kp kr notup
    have puu := puu.kp kr notup
    generalize upd (upd H11 T (.tup [.int 1, .int 0])) r (.lst (us.map V.ref ++ [.ref T])) = H12 at *
    refine ⟨_, rfl, _, rfl, _, rfl, _, rfl, r, _, rfl, SqL.hp hrT, fun C nC => ?_⟩
    rw [cut_last]
    have sC := Same.new (o := .lst (us.map V.ref)) nC
    refine ⟨.list ((unionM z ps.reverse).map prD), .list ((unionM z ps).map prD), .lst (SqL.hp (sC _ _ hru)) (puu.same sC).dp, .lst (SqL.hp upd_same) (pu.same sC).dp, shapedPs _, shapedPs _, _, rfl, iteTe (eqv_eq union_rev) ?_⟩
    refine ⟨_, rfl, k, _, rfl, .inl ⟨SqL.hp (sC _ _ hk), fun Tp nTp => ?_⟩⟩
    have sTp := Same.new (o := .tup (ts.map V.ref)) nTp
    have s12 := sC.trans sTp
    refine ⟨_, rfl, Tp, ts, ps, z, rfl, .inr (SqT.hp upd_same), pd.same s12, hst, l1, fun r7 us7 H13 _ hr7 pu7 s13 => ?_⟩
    have s123 := s12.trans s13
    refine ⟨_, rfl, .list ((unionM z ps).map prD), .list ((unionM z ps.reverse).map prD), .lst (SqL.hp hr7) pu7.dp, .lst (SqL.hp (s123 _ _ hru)) (puu.same s123).dp, shapedPs _, shapedPs _, _, rfl, iteTe (eqv_eq union_rev.symm) ?_⟩
    refine ⟨_, rfl, a, _, rfl, .inl (SqL.hp (s123 _ _ ha)), fun L nL => ?_⟩
    have sL := Same.new (o := .lst (ts.map V.ref)) nL
    have s124 := s123.trans sL
    refine ⟨_, rfl, .list (ps.map prD), .list (ps.map prD), .lst (SqL.hp upd_same) (pd.same s124).dp, .lst (SqL.hp (s124 _ _ hk)) (pd.same s124).dp, shapedPs _, shapedPs _, ?_⟩
    rw [eqv_eq rfl]
    exact q _ (sfin.trans s124)
end
/-! law -/
abbrev s_law : Stmt := topS 28
abbrev sc_law_N : List Str := ["_law_script", "_law_at", "_law_bag_here", "_law_many", "_law_rows", "_law_mode", "_law_turn"]
theorem sc_law : FnScope sc_law_N ["_law_script"] (defScope s_law) := ⟨rfl, rfl, rfl, by decide +kernel, rfl, by decide +kernel, by decide +kernel⟩
def sp_law (K : PySem.W.Frag) : Sp := fun vs H Q _ => ∃ (a : Addr) (ns : List Int), vs = [.ref a] ∧ SqL K H a (ns.map V.int) ∧ ns.length ≤ 63 ∧ ∀ H', Q (.bl true) H'
section
variable {P : Program} {w : World} {K : PySem.W.Frag} {mg : Str → Option Value} {bh : Heap}
theorem ok_law {f : Addr} {fd : FuncData} {f_l_bag : Addr} {fd_l_bag : FuncData} {f_l_take : Addr} {fd_l_take : FuncData} {f_l_stretch : Addr} {fd_l_stretch : FuncData} {f_union : Addr} {fd_union : FuncData} {f_l_due : Addr} {fd_l_due : FuncData} {f_l_right : Addr} {fd_l_right : FuncData} (B : Blt mg) (T : Txt K mg) (R_l_bag : Rdy P w K mg bh "_law_bag" 1 ["_law_script", "_law_at"] (sp_l_bag K) f_l_bag fd_l_bag) (R_l_take : Rdy P w K mg bh "_law_take" 1 ["_law_bag_here", "_law_many"] (sp_l_take K) f_l_take fd_l_take) (R_l_stretch : Rdy P w K mg bh "_law_stretch" 3 ["_law_bag_here"] (sp_l_stretch K) f_l_stretch fd_l_stretch) (R_union : RdyD P w K mg bh "union" 6 ["spans", "ends"] [.str "half"] (sp_union K) f_union fd_union) (R_l_due : Rdy P w K mg bh "_law_due" 1 ["_law_rows", "_law_mode"] (sp_l_due K) f_l_due fd_l_due) (R_l_right : Rdy P w K mg bh "_law_right" 8 ["_law_rows", "_law_mode", "_law_is_by_name"] (sp_l_right K) f_l_right fd_l_right) (F : Fun K "law" "law" s_law f fd) : FnG P w K mg bh 9 f fd ["_law_script"] (sp_law K) := by
  refine Fun.okG F sc_law (fun vs H Q E h => ?_) (fun cdv A outer s H vs Q E gd hr h => ?_)
  · obtain ⟨a, ns, rfl, _⟩ := h
    rfl
  · obtain ⟨a, ns, rfl, hS, hn, q⟩ := h
    refine ⟨_, (pss_cons (ps_for PassesOwn.never rfl (pi_range1 (by rfl) B.b_range (pa_cons (pe_callB (call_max2 rfl) (by rfl) B.b_max (by decide +kernel) (pa_cons pe_int (pa_cons (pe_callB (call_min2 rfl) (by rfl) B.b_min (by decide +kernel) (pa_cons (pe_callB call_len_seq (by rfl) B.b_len (by decide +kernel) (pa_cons (pv 0) pa_nil)) (pa_cons pe_int pa_nil))) pa_nil))) pa_nil)) (pg_name (i := 1) sc_law.nd rfl (Or.inl rfl))
      (pss_cons (ps_set (i := 2) sc_law.nd rfl (Or.inr rfl) (pe_rdy R_l_bag hr (by decide) (by rfl) (pa_cons (pv 0) (pa_cons (pv 1) pa_nil))))
      (pss_cons (ps_set (i := 3) sc_law.nd rfl (Or.inl rfl) (pe_rdy R_l_take hr (by decide) (by rfl) (pa_cons (pv 2) (pa_cons pe_int pa_nil))))
      (pss_mid (ps_if (PW.pt (pw_and (pt_cmpR op_eq (pv 1) pe_int (nomark _)) (pw_and1 (pt_cmpR op_eq (pe_rdy R_l_take hr (by decide) (by rfl) (pa_cons (pv 2) (pa_cons pe_int pa_nil))) pe_int (nomark _)))))
      (pss_one (ps_set (i := 3) sc_law.nd rfl (Or.inl rfl) (pe_op op_add pe_int (pe_rdy R_l_take hr (by decide) (by rfl) (pa_cons (pv 2) (pa_cons pe_int pa_nil))))))
      pss_nil)
      (pss_cons (ps_setLc (i := 4) (own := [("_law_turn", 6)]) (by rfl) sc_law.nd rfl rfl (sw_true rfl rfl rfl (by decide +kernel)) (pi_range1 (by rfl) B.b_range (pa_cons (pv 3) pa_nil)) (blkOk_by (own := [("_law_turn", 6)]) (N := sc_law_N) (sc := defScope s_law) (by decide +kernel)) (fun _ _ _ _ _ => (pg_name (i := 6) sc_law.nd rfl (Or.inl rfl))) (fun _ _ _ _ _ => pts_nil) (fun _ _ _ _ _ => (pe_rdy R_l_stretch hr (by decide) (by rfl) (pa_cons (pv 2) pa_nil))))
      (pss_cons (ps_for PassesOwn.never rfl (pi_list (pe_lst (pa_cons pe_str (pa_cons pe_str pa_nil)))) (pg_name (i := 5) sc_law.nd rfl (Or.inl rfl))
      (pss_one (ps_if (pt_not (pt_val (pe_rdy R_l_right hr (by decide) (by rfl) (pa_cons (pv 4) (pa_cons (pv 5) (pa_cons (pe_cmpR op_eq (pe_rdy R_l_take hr (by decide) (by rfl) (pa_cons (pv 2) (pa_cons pe_int pa_nil))) pe_int (nomark _)) pa_nil))))))
      (pss_one (ps_ret pe_bl))
      pss_nil)))
      (pss_one (ps_if (pt_cmpR (op_neD hr.units) (pe_rdyD1 R_union hr (by decide) (by rfl) (pa_cons (pv 4) pa_nil)) (pe_rdy R_l_due hr (by decide) (by rfl) (pa_cons (pv 4) (pa_cons pe_str pa_nil))) (nomark _))
      (pss_one (ps_ret pe_bl))
      pss_nil))))))))
      (pss_one (ps_ret pe_bl))), ?_⟩
    refine ⟨_, rfl, a, _, rfl, .inl hS, _, _, rfl, _, _, rfl, ?_⟩
    rw [List.length_map]
    obtain ⟨N, eN⟩ : ∃ N : Int, (if (if (30 : Int) < (ns.length : Int) then (30 : Int) else (ns.length : Int)) > 1 then (if (30 : Int) < (ns.length : Int) then (30 : Int) else (ns.length : Int)) else 1) = N := ⟨_, rfl⟩
    have hN : 1 ≤ N ∧ N ≤ 30 := by
      subst eN
      (repeat' split) <;> omega
    refine ⟨N, by rw [← eN], by omega, by omega, ?_⟩
    refine for_range (lo := 0) (n := N.toNat) (fun i σ H' => (∃ y1 y2 y3 y4 y5 y6, σ = [some (.ref a), y1, y2, y3, y4, y5, y6]) ∧ Same H H') ⟨⟨_, _, _, _, _, _, rfl⟩, Same.refl H⟩ ?_ ?_
    · rintro i σ H5 hi ⟨⟨y1, y2, y3, y4, y5, y6, rfl⟩, s5⟩
      refine ⟨_, rfl, _, rfl, a, ns, _, rfl, s5.seq hS, by omega, by omega, fun p H6 np bg6 bt6 => ?_⟩
      refine ⟨_, rfl, p, 13, _, rfl, bg6, by omega, by omega, by omega, fun m H7 m0 m1 bg7 bt7 => ?_⟩
      refine ⟨fun σ H' => ∃ m : Int, σ = [some (.ref a), some (.int (0 + (i : Int))), some (.ref p), some (.int m), y4, y5, y6] ∧ 0 ≤ m ∧ m ≤ 60 ∧ BagAt H' p 3 ∧ But p H6 H', ?_, ?_⟩
      · refine ⟨_, rfl, rfl, _, rfl, ?_⟩
        refine ite2 (fun c1 => ?_) (fun c1 => iteF ⟨m, rfl, m0, by omega, bg7.mono (by omega), bt7⟩)
        refine ⟨_, rfl, p, 4, _, rfl, bg7, by omega, by omega, by omega, fun r H8 r0 r1 bg8 bt8 => ⟨rfl, _, rfl, ?_⟩⟩
        refine ite2 (fun c2 => ?_) (fun c2 => ⟨m, rfl, m0, by omega, bg8.mono (by omega), bt7.trans bt8⟩)
        exact ⟨_, rfl, p, 31, _, rfl, bg8, by omega, by omega, by omega, fun u H9 u0 u1 bg9 bt9 => ⟨_, _, rfl, rfl, 30 + u, rfl, by omega, by omega, bg9.mono (by omega), (bt7.trans bt8).trans bt9⟩⟩
      clear bg7 bt7 m0 m1
      rintro σ H7 ⟨m, rfl, m0, m1, bg7, bt7⟩
      refine ⟨_, rfl, m, rfl, by omega, by omega, fun D nD => ?_⟩
      have npD : p ≠ D := by obtain ⟨ys, h⟩ := bg7.lst; exact ne_of_none h nD
      refine lc_it (walk_range (lo := 0) (n := m.toNat)) (fun j H' => ∃ us qs, BagAt H' p (3 + 8 * (j : Int)) ∧ Kp p H7 H' ∧ H' D = some (.lst (us.map V.ref)) ∧ Pd H' us qs ∧ (∀ x ∈ qs, strP x = true) ∧ qs.length = j) ⟨[], [], (bg7.same (Same.new nD)).mono (by omega), Kp.new nD, upd_same, trivial, fun x hx => absurd hx List.not_mem_nil, rfl⟩ (fun _ _ _ _ => trivial) ?_ ?_
      · rintro j x Ha Hb hj ⟨us, qs, bgx, kpx, hD, pdx, gx, lx⟩ ⟨rfl, rfl⟩
        have lu := pdx.len
        refine ⟨rfl, ?_⟩
        refine ⟨_, rfl, p, _, rfl, bgx, by omega, fun t b e Hc nt et gd' bgc kpc => ?_⟩
        have hDc := kpc _ _ (Ne.symm npD) hD
        have nDt : D ≠ t := ne_of hDc et (fun z => nomatch z)
        have pdc : Pd Hc us qs := Pd.kp kpc (fun xs z => by obtain ⟨ys, h⟩ := bgx.lst; rw [h] at z; cases z) pdx
        refine ⟨us.map V.ref, hDc, ?_, us ++ [t], qs ++ [(b, e)], ?_, ?_, ?_, ?_, ?_, ?_⟩
        · rw [List.length_map]
          exact small1000 (by omega)
        · exact (bag_kp bgc (Kp.at_ (p := D)) npD).mono (by omega)
        · intro b' o nb hb'
          rw [upd_ne (ne_of_none hb' nD)]
          exact kpc _ _ nb (kpx _ _ nb hb')
        · rw [upd_same, List.map_append]; rfl
        · refine Pd.app (Pd.kp (Kp.at_ (p := D)) (fun xs z => by rw [hDc] at z; cases z) pdc) ⟨?_, trivial⟩
          rw [upd_ne (Ne.symm nDt)]
          exact et
        · intro w hw
          rcases List.mem_append.mp hw with hw | hw
          · exact gx w hw
          · exact (List.mem_singleton.mp hw) ▸ gd'
        · rw [List.length_append, lx]; rfl
      rintro H8 ⟨us, qs, bg8, kp8, hD, pd8, g8, l8⟩
      have lq : qs.length ≤ 60 := by omega
      refine ⟨(by show 2 ≤ sizeLine; decide), fun w nw => ⟨w, rfl, ⟨_, SqL.hp upd_same⟩, ?_⟩⟩
      have sw : Same H8 (upd H8 w (.lst [.str "half", .str "shut"])) := Same.new nw
      have hw9 : (upd H8 w (.lst [.str "half", .str "shut"])) w = some (.lst [.str "half", .str "shut"]) := upd_same
      have kp09 : Kp p H6 (upd H8 w (.lst [.str "half", .str "shut"])) := (bt7.kp.trans kp8).trans (Kp.same sw)
      have npw : p ≠ w := by obtain ⟨ys, h⟩ := bg8.lst; exact ne_of_none h nw
      generalize upd H8 w (.lst [.str "half", .str "shut"]) = H9 at *
      have hD9 := sw _ _ hD
      have pd9 := pd8.same sw
      have bg9 := bg8.same sw
      have nb9 : ∀ xs, H9 p ≠ some (.tup xs) := fun xs z => by obtain ⟨ys, h⟩ := bg9.lst; rw [h] at z; cases z
      refine for_list (K := K) (a := w) (xs := [.str "half", .str "shut"]) (fun j σ H' => (∃ y5, σ = [some (.ref a), some (.int (0 + (i : Int))), some (.ref p), some (.int m), some (.ref D), y5, y6]) ∧ BagAt H' p (1000 + 2 * (j : Int)) ∧ Kp p H9 H') ⟨⟨_, rfl⟩, bg9.mono (by omega), Kp.refl⟩ (fun j σ H' _ h => SqL.hp (h.2.2 _ _ (Ne.symm npw) hw9)) ?_ ?_
      · rintro j x σ H10 hx ⟨⟨z5, rfl⟩, bg10, kp10⟩
        have hj2 : j < 2 := by have := (List.getElem?_eq_some_iff.mp hx).1; exact this
        obtain ⟨z, rfl⟩ := mode_of hx
        refine ⟨_, rfl, _, rfl, _, rfl, p, 2, _, rfl, bg10, by omega, by omega, by omega, fun u H11 u0 u1 bg11 bt11 => ⟨rfl, ?_⟩⟩
        have k11 := kp10.trans bt11.kp
        refine ⟨D, us, qs, z, _, rfl, k11 _ _ (Ne.symm npD) hD9, pd9.kp k11 nb9, g8, lq, fun H12 s12 => ⟨_, rfl, iteFe rfl ?_⟩⟩
        exact ⟨⟨_, rfl⟩, (bg11.same s12).mono (by omega), k11.trans (Kp.same s12)⟩
      · rintro σ H10 ⟨⟨z5, rfl⟩, bg10, kp10⟩
        have hD10 := kp10 _ _ (Ne.symm npD) hD9
        have pd10 := pd9.kp kp10 nb9
        refine ⟨_, rfl, D, us, qs, false, rfl, .inl (SqL.hp hD10), pd10, g8, by omega, fun r us1 H11 nr hr pu s11 => ?_⟩
        refine ⟨_, rfl, D, us, qs, false, rfl, SqL.hp (s11 _ _ hD10), pd10.same s11, g8, by omega, fun r2 us2 H12 _ hr2 pu2 s12 => ?_⟩
        refine ⟨.list ((unionM false qs).map prD), .list ((unionM false qs).map prD), .lst (SqL.hp (s12 _ _ hr)) (pu.same s12).dp, .lst (SqL.hp hr2) pu2.dp, shapedPs _, shapedPs _, _, rfl, iteFe (eqv_self _) ?_⟩
        exact ⟨⟨_, _, _, _, _, _, rfl⟩, s5.trans (bag_same np bt6 (kp09.trans (kp10.trans (Kp.same (s11.trans s12)))))⟩
    · rintro σ H5 ⟨⟨y1, y2, y3, y4, y5, y6, rfl⟩, s5⟩
      exact q H5
end
section
theorem all_mk {l : PySem.W.OpenLaw} {w : World} {K : PySem.W.Frag} {h : Heap} {mg : Str → Option Value} {fa : Addr} {t_FIRST : Tok} {t_LAST : Tok} {t_FAR : Tok} {CE : Addr} {tE1 tE2 : Tok} {f_is_number : Addr} {od_is_number an_is_number : Option Addr} {sl_is_number : Array (Option Value)} {oc_is_number kV_is_number dc_is_number pm_is_number cd_is_number ct_is_number : Value} {f_is_edge : Addr} {od_is_edge an_is_edge : Option Addr} {sl_is_edge : Array (Option Value)} {oc_is_edge kV_is_edge dc_is_edge pm_is_edge cd_is_edge ct_is_edge : Value} {f_is_pair : Addr} {od_is_pair an_is_pair : Option Addr} {sl_is_pair : Array (Option Value)} {oc_is_pair kV_is_pair dc_is_pair pm_is_pair cd_is_pair ct_is_pair : Value} {f_is_stretch : Addr} {od_is_stretch an_is_stretch : Option Addr} {sl_is_stretch : Array (Option Value)} {oc_is_stretch kV_is_stretch dc_is_stretch pm_is_stretch cd_is_stretch ct_is_stretch : Value} {f_check_ends : Addr} {od_check_ends an_check_ends : Option Addr} {sl_check_ends : Array (Option Value)} {oc_check_ends kV_check_ends dc_check_ends pm_check_ends cd_check_ends ct_check_ends : Value} {f_check_stretches : Addr} {od_check_stretches an_check_stretches : Option Addr} {sl_check_stretches : Array (Option Value)} {oc_check_stretches kV_check_stretches dc_check_stretches pm_check_stretches cd_check_stretches ct_check_stretches : Value} {f_is_empty : Addr} {od_is_empty an_is_empty : Option Addr} {sl_is_empty : Array (Option Value)} {oc_is_empty kV_is_empty dc_is_empty pm_is_empty cd_is_empty ct_is_empty : Value} {T_is_empty : Addr} {o_is_empty : Obj} {its_is_empty : List Value} {n_is_empty : Nat} {f_join_sorted : Addr} {od_join_sorted an_join_sorted : Option Addr} {sl_join_sorted : Array (Option Value)} {oc_join_sorted kV_join_sorted dc_join_sorted pm_join_sorted cd_join_sorted ct_join_sorted : Value} {f_union : Addr} {od_union an_union : Option Addr} {sl_union : Array (Option Value)} {oc_union kV_union dc_union pm_union cd_union ct_union : Value} {T_union : Addr} {o_union : Obj} {its_union : List Value} {n_union : Nat} {f_in_one_form : Addr} {od_in_one_form an_in_one_form : Option Addr} {sl_in_one_form : Array (Option Value)} {oc_in_one_form kV_in_one_form dc_in_one_form pm_in_one_form cd_in_one_form ct_in_one_form : Value} {T_in_one_form : Addr} {o_in_one_form : Obj} {its_in_one_form : List Value} {n_in_one_form : Nat} {f_l_bag : Addr} {od_l_bag an_l_bag : Option Addr} {sl_l_bag : Array (Option Value)} {oc_l_bag kV_l_bag dc_l_bag pm_l_bag cd_l_bag ct_l_bag : Value} {f_l_take : Addr} {od_l_take an_l_take : Option Addr} {sl_l_take : Array (Option Value)} {oc_l_take kV_l_take dc_l_take pm_l_take cd_l_take ct_l_take : Value} {f_l_edge : Addr} {od_l_edge an_l_edge : Option Addr} {sl_l_edge : Array (Option Value)} {oc_l_edge kV_l_edge dc_l_edge pm_l_edge cd_l_edge ct_l_edge : Value} {f_l_stretch : Addr} {od_l_stretch an_l_stretch : Option Addr} {sl_l_stretch : Array (Option Value)} {oc_l_stretch kV_l_stretch dc_l_stretch pm_l_stretch cd_l_stretch ct_l_stretch : Value} {f_l_holds : Addr} {od_l_holds an_l_holds : Option Addr} {sl_l_holds : Array (Option Value)} {oc_l_holds kV_l_holds dc_l_holds pm_l_holds cd_l_holds ct_l_holds : Value} {f_l_moments : Addr} {od_l_moments an_l_moments : Option Addr} {sl_l_moments : Array (Option Value)} {oc_l_moments kV_l_moments dc_l_moments pm_l_moments cd_l_moments ct_l_moments : Value} {f_l_pairs_right : Addr} {od_l_pairs_right an_l_pairs_right : Option Addr} {sl_l_pairs_right : Array (Option Value)} {oc_l_pairs_right kV_l_pairs_right dc_l_pairs_right pm_l_pairs_right cd_l_pairs_right ct_l_pairs_right : Value} {f_l_due : Addr} {od_l_due an_l_due : Option Addr} {sl_l_due : Array (Option Value)} {oc_l_due kV_l_due dc_l_due pm_l_due cd_l_due ct_l_due : Value} {f_l_right : Addr} {od_l_right an_l_right : Option Addr} {sl_l_right : Array (Option Value)} {oc_l_right kV_l_right dc_l_right pm_l_right cd_l_right ct_l_right : Value} {f_law : Addr} {od_law an_law : Option Addr} {sl_law : Array (Option Value)} {oc_law kV_law dc_law pm_law cd_law ct_law : Value} (X : K.In h) (G : h.Ns mainGlobals mg) (hfa : mg "law" = some (.ref fa))
    (z_abs : PySem.W.nsIn K mainGlobals "abs" = some none)
    (z_bool : PySem.W.nsIn K mainGlobals "bool" = some none)
    (z_enumerate : PySem.W.nsIn K mainGlobals "enumerate" = some none)
    (z_int : PySem.W.nsIn K mainGlobals "int" = some none)
    (z_isinstance : PySem.W.nsIn K mainGlobals "isinstance" = some none)
    (z_len : PySem.W.nsIn K mainGlobals "len" = some none)
    (z_list : PySem.W.nsIn K mainGlobals "list" = some none)
    (z_max : PySem.W.nsIn K mainGlobals "max" = some none)
    (z_min : PySem.W.nsIn K mainGlobals "min" = some none)
    (z_range : PySem.W.nsIn K mainGlobals "range" = some none)
    (z_reversed : PySem.W.nsIn K mainGlobals "reversed" = some none)
    (z_set : PySem.W.nsIn K mainGlobals "set" = some none)
    (z_sorted : PySem.W.nsIn K mainGlobals "sorted" = some none)
    (z_tuple : PySem.W.nsIn K mainGlobals "tuple" = some none)
    (z_zip : PySem.W.nsIn K mainGlobals "zip" = some none)
    (c_FIRST : PySem.W.nsIn K mainGlobals "FIRST" = some (some (.int (-10000000000000000000000000000000) t_FIRST)))
    (c_LAST : PySem.W.nsIn K mainGlobals "LAST" = some (some (.int (10000000000000000000000000000000) t_LAST)))
    (c_FAR : PySem.W.nsIn K mainGlobals "FAR" = some (some (.int (1000000000000000000000000000000) t_FAR)))
    (e_g : PySem.W.nsIn K mainGlobals "Ends" = some (some (.ref CE)))
    (e_rd : PySem.W.readsIn K CE (.type "type") = true)
    (e_ga : PySem.W.specialIn K (.ref CE) "__getattribute__" = some (some (.builtin "type.__getattribute__")))
    (e_1 : PySem.W.findCls K (.ref CE) (.type "type") "HALF" = some (.val (.str "half" tE1)))
    (e_2 : PySem.W.findCls K (.ref CE) (.type "type") "SHUT" = some (.val (.str "shut" tE2)))
    (a_is_number : PySem.W.nsIn K mainGlobals "is_number" = some (some (.ref f_is_number)))
    (l_is_number : K.lookup f_is_number = some ⟨oc_is_number, od_is_number, .func (PySem.W.fnOf "is_number" "is_number" (defArgs s_is_number) (defBody s_is_number) (defScope s_is_number) .none kV_is_number dc_is_number pm_is_number an_is_number cd_is_number ct_is_number), sl_is_number⟩)
    (c_is_number : PySem.W.codeIn K cd_is_number "is_number" = true)
    (k_is_number : PySem.W.keepIn K (.ref f_is_number) = true)
    (a_is_edge : PySem.W.nsIn K mainGlobals "is_edge" = some (some (.ref f_is_edge)))
    (l_is_edge : K.lookup f_is_edge = some ⟨oc_is_edge, od_is_edge, .func (PySem.W.fnOf "is_edge" "is_edge" (defArgs s_is_edge) (defBody s_is_edge) (defScope s_is_edge) .none kV_is_edge dc_is_edge pm_is_edge an_is_edge cd_is_edge ct_is_edge), sl_is_edge⟩)
    (c_is_edge : PySem.W.codeIn K cd_is_edge "is_edge" = true)
    (k_is_edge : PySem.W.keepIn K (.ref f_is_edge) = true)
    (a_is_pair : PySem.W.nsIn K mainGlobals "is_pair" = some (some (.ref f_is_pair)))
    (l_is_pair : K.lookup f_is_pair = some ⟨oc_is_pair, od_is_pair, .func (PySem.W.fnOf "is_pair" "is_pair" (defArgs s_is_pair) (defBody s_is_pair) (defScope s_is_pair) .none kV_is_pair dc_is_pair pm_is_pair an_is_pair cd_is_pair ct_is_pair), sl_is_pair⟩)
    (c_is_pair : PySem.W.codeIn K cd_is_pair "is_pair" = true)
    (k_is_pair : PySem.W.keepIn K (.ref f_is_pair) = true)
    (a_is_stretch : PySem.W.nsIn K mainGlobals "is_stretch" = some (some (.ref f_is_stretch)))
    (l_is_stretch : K.lookup f_is_stretch = some ⟨oc_is_stretch, od_is_stretch, .func (PySem.W.fnOf "is_stretch" "is_stretch" (defArgs s_is_stretch) (defBody s_is_stretch) (defScope s_is_stretch) .none kV_is_stretch dc_is_stretch pm_is_stretch an_is_stretch cd_is_stretch ct_is_stretch), sl_is_stretch⟩)
    (c_is_stretch : PySem.W.codeIn K cd_is_stretch "is_stretch" = true)
    (k_is_stretch : PySem.W.keepIn K (.ref f_is_stretch) = true)
    (a_check_ends : PySem.W.nsIn K mainGlobals "check_ends" = some (some (.ref f_check_ends)))
    (l_check_ends : K.lookup f_check_ends = some ⟨oc_check_ends, od_check_ends, .func (PySem.W.fnOf "check_ends" "check_ends" (defArgs s_check_ends) (defBody s_check_ends) (defScope s_check_ends) .none kV_check_ends dc_check_ends pm_check_ends an_check_ends cd_check_ends ct_check_ends), sl_check_ends⟩)
    (c_check_ends : PySem.W.codeIn K cd_check_ends "check_ends" = true)
    (k_check_ends : PySem.W.keepIn K (.ref f_check_ends) = true)
    (a_check_stretches : PySem.W.nsIn K mainGlobals "check_stretches" = some (some (.ref f_check_stretches)))
    (l_check_stretches : K.lookup f_check_stretches = some ⟨oc_check_stretches, od_check_stretches, .func (PySem.W.fnOf "check_stretches" "check_stretches" (defArgs s_check_stretches) (defBody s_check_stretches) (defScope s_check_stretches) .none kV_check_stretches dc_check_stretches pm_check_stretches an_check_stretches cd_check_stretches ct_check_stretches), sl_check_stretches⟩)
    (c_check_stretches : PySem.W.codeIn K cd_check_stretches "check_stretches" = true)
    (k_check_stretches : PySem.W.keepIn K (.ref f_check_stretches) = true)
    (a_is_empty : PySem.W.nsIn K mainGlobals "is_empty" = some (some (.ref f_is_empty)))
    (l_is_empty : K.lookup f_is_empty = some ⟨oc_is_empty, od_is_empty, .func (PySem.W.fnOf "is_empty" "is_empty" (defArgs s_is_empty) (defBody s_is_empty) (defScope s_is_empty) (.ref T_is_empty) kV_is_empty dc_is_empty pm_is_empty an_is_empty cd_is_empty ct_is_empty), sl_is_empty⟩)
    (c_is_empty : PySem.W.codeIn K cd_is_empty "is_empty" = true)
    (k_is_empty : PySem.W.keepIn K (.ref f_is_empty) = true)
    (T1_is_empty : K.lookup T_is_empty = some o_is_empty)
    (T2_is_empty : o_is_empty.data = .seq its_is_empty.toArray n_is_empty)
    (T3_is_empty : Vals [.str "half"] its_is_empty)
    (a_join_sorted : PySem.W.nsIn K mainGlobals "join_sorted" = some (some (.ref f_join_sorted)))
    (l_join_sorted : K.lookup f_join_sorted = some ⟨oc_join_sorted, od_join_sorted, .func (PySem.W.fnOf "join_sorted" "join_sorted" (defArgs s_join_sorted) (defBody s_join_sorted) (defScope s_join_sorted) .none kV_join_sorted dc_join_sorted pm_join_sorted an_join_sorted cd_join_sorted ct_join_sorted), sl_join_sorted⟩)
    (c_join_sorted : PySem.W.codeIn K cd_join_sorted "join_sorted" = true)
    (k_join_sorted : PySem.W.keepIn K (.ref f_join_sorted) = true)
    (a_union : PySem.W.nsIn K mainGlobals "union" = some (some (.ref f_union)))
    (l_union : K.lookup f_union = some ⟨oc_union, od_union, .func (PySem.W.fnOf "union" "union" (defArgs s_union) (defBody s_union) (defScope s_union) (.ref T_union) kV_union dc_union pm_union an_union cd_union ct_union), sl_union⟩)
    (c_union : PySem.W.codeIn K cd_union "union" = true)
    (k_union : PySem.W.keepIn K (.ref f_union) = true)
    (T1_union : K.lookup T_union = some o_union)
    (T2_union : o_union.data = .seq its_union.toArray n_union)
    (T3_union : Vals [.str "half"] its_union)
    (a_in_one_form : PySem.W.nsIn K mainGlobals "in_one_form" = some (some (.ref f_in_one_form)))
    (l_in_one_form : K.lookup f_in_one_form = some ⟨oc_in_one_form, od_in_one_form, .func (PySem.W.fnOf "in_one_form" "in_one_form" (defArgs s_in_one_form) (defBody s_in_one_form) (defScope s_in_one_form) (.ref T_in_one_form) kV_in_one_form dc_in_one_form pm_in_one_form an_in_one_form cd_in_one_form ct_in_one_form), sl_in_one_form⟩)
    (c_in_one_form : PySem.W.codeIn K cd_in_one_form "in_one_form" = true)
    (k_in_one_form : PySem.W.keepIn K (.ref f_in_one_form) = true)
    (T1_in_one_form : K.lookup T_in_one_form = some o_in_one_form)
    (T2_in_one_form : o_in_one_form.data = .seq its_in_one_form.toArray n_in_one_form)
    (T3_in_one_form : Vals [.str "half"] its_in_one_form)
    (a_l_bag : PySem.W.nsIn K mainGlobals "_law_bag" = some (some (.ref f_l_bag)))
    (l_l_bag : K.lookup f_l_bag = some ⟨oc_l_bag, od_l_bag, .func (PySem.W.fnOf "_law_bag" "_law_bag" (defArgs s_l_bag) (defBody s_l_bag) (defScope s_l_bag) .none kV_l_bag dc_l_bag pm_l_bag an_l_bag cd_l_bag ct_l_bag), sl_l_bag⟩)
    (c_l_bag : PySem.W.codeIn K cd_l_bag "_law_bag" = true)
    (k_l_bag : PySem.W.keepIn K (.ref f_l_bag) = true)
    (a_l_take : PySem.W.nsIn K mainGlobals "_law_take" = some (some (.ref f_l_take)))
    (l_l_take : K.lookup f_l_take = some ⟨oc_l_take, od_l_take, .func (PySem.W.fnOf "_law_take" "_law_take" (defArgs s_l_take) (defBody s_l_take) (defScope s_l_take) .none kV_l_take dc_l_take pm_l_take an_l_take cd_l_take ct_l_take), sl_l_take⟩)
    (c_l_take : PySem.W.codeIn K cd_l_take "_law_take" = true)
    (k_l_take : PySem.W.keepIn K (.ref f_l_take) = true)
    (a_l_edge : PySem.W.nsIn K mainGlobals "_law_edge" = some (some (.ref f_l_edge)))
    (l_l_edge : K.lookup f_l_edge = some ⟨oc_l_edge, od_l_edge, .func (PySem.W.fnOf "_law_edge" "_law_edge" (defArgs s_l_edge) (defBody s_l_edge) (defScope s_l_edge) .none kV_l_edge dc_l_edge pm_l_edge an_l_edge cd_l_edge ct_l_edge), sl_l_edge⟩)
    (c_l_edge : PySem.W.codeIn K cd_l_edge "_law_edge" = true)
    (k_l_edge : PySem.W.keepIn K (.ref f_l_edge) = true)
    (a_l_stretch : PySem.W.nsIn K mainGlobals "_law_stretch" = some (some (.ref f_l_stretch)))
    (l_l_stretch : K.lookup f_l_stretch = some ⟨oc_l_stretch, od_l_stretch, .func (PySem.W.fnOf "_law_stretch" "_law_stretch" (defArgs s_l_stretch) (defBody s_l_stretch) (defScope s_l_stretch) .none kV_l_stretch dc_l_stretch pm_l_stretch an_l_stretch cd_l_stretch ct_l_stretch), sl_l_stretch⟩)
    (c_l_stretch : PySem.W.codeIn K cd_l_stretch "_law_stretch" = true)
    (k_l_stretch : PySem.W.keepIn K (.ref f_l_stretch) = true)
    (a_l_holds : PySem.W.nsIn K mainGlobals "_law_holds" = some (some (.ref f_l_holds)))
    (l_l_holds : K.lookup f_l_holds = some ⟨oc_l_holds, od_l_holds, .func (PySem.W.fnOf "_law_holds" "_law_holds" (defArgs s_l_holds) (defBody s_l_holds) (defScope s_l_holds) .none kV_l_holds dc_l_holds pm_l_holds an_l_holds cd_l_holds ct_l_holds), sl_l_holds⟩)
    (c_l_holds : PySem.W.codeIn K cd_l_holds "_law_holds" = true)
    (k_l_holds : PySem.W.keepIn K (.ref f_l_holds) = true)
    (a_l_moments : PySem.W.nsIn K mainGlobals "_law_moments" = some (some (.ref f_l_moments)))
    (l_l_moments : K.lookup f_l_moments = some ⟨oc_l_moments, od_l_moments, .func (PySem.W.fnOf "_law_moments" "_law_moments" (defArgs s_l_moments) (defBody s_l_moments) (defScope s_l_moments) .none kV_l_moments dc_l_moments pm_l_moments an_l_moments cd_l_moments ct_l_moments), sl_l_moments⟩)
    (c_l_moments : PySem.W.codeIn K cd_l_moments "_law_moments" = true)
    (k_l_moments : PySem.W.keepIn K (.ref f_l_moments) = true)
    (a_l_pairs_right : PySem.W.nsIn K mainGlobals "_law_pairs_right" = some (some (.ref f_l_pairs_right)))
    (l_l_pairs_right : K.lookup f_l_pairs_right = some ⟨oc_l_pairs_right, od_l_pairs_right, .func (PySem.W.fnOf "_law_pairs_right" "_law_pairs_right" (defArgs s_l_pairs_right) (defBody s_l_pairs_right) (defScope s_l_pairs_right) .none kV_l_pairs_right dc_l_pairs_right pm_l_pairs_right an_l_pairs_right cd_l_pairs_right ct_l_pairs_right), sl_l_pairs_right⟩)
    (c_l_pairs_right : PySem.W.codeIn K cd_l_pairs_right "_law_pairs_right" = true)
    (k_l_pairs_right : PySem.W.keepIn K (.ref f_l_pairs_right) = true)
    (a_l_due : PySem.W.nsIn K mainGlobals "_law_due" = some (some (.ref f_l_due)))
    (l_l_due : K.lookup f_l_due = some ⟨oc_l_due, od_l_due, .func (PySem.W.fnOf "_law_due" "_law_due" (defArgs s_l_due) (defBody s_l_due) (defScope s_l_due) .none kV_l_due dc_l_due pm_l_due an_l_due cd_l_due ct_l_due), sl_l_due⟩)
    (c_l_due : PySem.W.codeIn K cd_l_due "_law_due" = true)
    (k_l_due : PySem.W.keepIn K (.ref f_l_due) = true)
    (a_l_right : PySem.W.nsIn K mainGlobals "_law_right" = some (some (.ref f_l_right)))
    (l_l_right : K.lookup f_l_right = some ⟨oc_l_right, od_l_right, .func (PySem.W.fnOf "_law_right" "_law_right" (defArgs s_l_right) (defBody s_l_right) (defScope s_l_right) .none kV_l_right dc_l_right pm_l_right an_l_right cd_l_right ct_l_right), sl_l_right⟩)
    (c_l_right : PySem.W.codeIn K cd_l_right "_law_right" = true)
    (k_l_right : PySem.W.keepIn K (.ref f_l_right) = true)
    (a_law : PySem.W.nsIn K mainGlobals "law" = some (some (.ref f_law)))
    (l_law : K.lookup f_law = some ⟨oc_law, od_law, .func (PySem.W.fnOf "law" "law" (defArgs s_law) (defBody s_law) (defScope s_law) .none kV_law dc_law pm_law an_law cd_law ct_law), sl_law⟩)
    (c_law : PySem.W.codeIn K cd_law "law" = true)
    (k_law : PySem.W.keepIn K (.ref f_law) = true)
    : ∃ fd : FuncData, (∀ (s : Shared) (v : Value), BindsTo s fd ⟨[v], []⟩ [("_law_script", v)]) ∧ ∀ bh : Heap, K.In bh → bh.Ns mainGlobals mg → FnG l.prog w K mg bh 9 fa fd ["_law_script"] (sp_law K) := by
  have e := hfa.symm.trans (PySem.W.mg_of X G a_law)
  cases e
  have B : Blt mg := ⟨PySem.W.mg_none_of X G z_abs, PySem.W.mg_none_of X G z_bool, PySem.W.mg_none_of X G z_enumerate, PySem.W.mg_none_of X G z_int, PySem.W.mg_none_of X G z_isinstance, PySem.W.mg_none_of X G z_len, PySem.W.mg_none_of X G z_list, PySem.W.mg_none_of X G z_max, PySem.W.mg_none_of X G z_min, PySem.W.mg_none_of X G z_range, PySem.W.mg_none_of X G z_reversed, PySem.W.mg_none_of X G z_set, PySem.W.mg_none_of X G z_sorted, PySem.W.mg_none_of X G z_tuple, PySem.W.mg_none_of X G z_zip⟩
  have T : Txt K mg := ⟨⟨t_FIRST, PySem.W.mg_of X G c_FIRST⟩, ⟨t_LAST, PySem.W.mg_of X G c_LAST⟩, ⟨t_FAR, PySem.W.mg_of X G c_FAR⟩, ⟨⟨CE, .type "type", _, _, PySem.W.mg_of X G e_g, ⟨e_rd, e_ga⟩, ⟨e_1, ⟨_, rfl⟩⟩, ⟨e_2, ⟨_, rfl⟩⟩⟩⟩⟩
  have F_is_number := fun_mk (st := s_is_number) l_is_number c_is_number k_is_number
  have b_is_number := F_is_number.binds (ps := ["value"]) fun _ _ _ _ _ _ us hl => match us, hl with | [_], _ => rfl
  have F_is_edge := fun_mk (st := s_is_edge) l_is_edge c_is_edge k_is_edge
  have b_is_edge := F_is_edge.binds (ps := ["value"]) fun _ _ _ _ _ _ us hl => match us, hl with | [_], _ => rfl
  have F_is_pair := fun_mk (st := s_is_pair) l_is_pair c_is_pair k_is_pair
  have b_is_pair := F_is_pair.binds (ps := ["value"]) fun _ _ _ _ _ _ us hl => match us, hl with | [_], _ => rfl
  have F_is_stretch := fun_mk (st := s_is_stretch) l_is_stretch c_is_stretch k_is_stretch
  have b_is_stretch := F_is_stretch.binds (ps := ["value"]) fun _ _ _ _ _ _ us hl => match us, hl with | [_], _ => rfl
  have F_check_ends := fun_mk (st := s_check_ends) l_check_ends c_check_ends k_check_ends
  have b_check_ends := F_check_ends.binds (ps := ["ends"]) fun _ _ _ _ _ _ us hl => match us, hl with | [_], _ => rfl
  have F_check_stretches := fun_mk (st := s_check_stretches) l_check_stretches c_check_stretches k_check_stretches
  have b_check_stretches := F_check_stretches.binds (ps := ["spans"]) fun _ _ _ _ _ _ us hl => match us, hl with | [_], _ => rfl
  have F_is_empty : FunD K "is_empty" "is_empty" (defArgs s_is_empty) (defBody s_is_empty) (defScope s_is_empty) [.str "half"] [] f_is_empty _ := ⟨⟨oc_is_empty, od_is_empty, .ref T_is_empty, kV_is_empty, dc_is_empty, pm_is_empty, an_is_empty, cd_is_empty, ct_is_empty, sl_is_empty, rfl, l_is_empty, c_is_empty, .inr ⟨(fun z => nomatch z), T_is_empty, o_is_empty, its_is_empty, n_is_empty, rfl, T1_is_empty, T2_is_empty, T3_is_empty⟩, .inl rfl⟩, k_is_empty⟩
  have b_is_empty := bindsFull (ps := ["pair", "ends"]) F_is_empty (fun z => nomatch z) fun _ _ _ _ _ _ _ us its h1 h2 => match us, its, h1, h2 with | [_, _], [_], _, _ => ⟨_, rfl, rfl⟩
  have b1_is_empty := FunD.binds1 (ps := ["pair", "ends"]) F_is_empty 1 0 (fun z => nomatch z) rfl fun _ _ _ _ _ _ _ us its h1 h2 => match us, its, h1, h2 with | [_], [_], _, _ => ⟨_, rfl, rfl⟩
  have F_join_sorted := fun_mk (st := s_join_sorted) l_join_sorted c_join_sorted k_join_sorted
  have b_join_sorted := F_join_sorted.binds (ps := ["spans"]) fun _ _ _ _ _ _ us hl => match us, hl with | [_], _ => rfl
  have F_union : FunD K "union" "union" (defArgs s_union) (defBody s_union) (defScope s_union) [.str "half"] [] f_union _ := ⟨⟨oc_union, od_union, .ref T_union, kV_union, dc_union, pm_union, an_union, cd_union, ct_union, sl_union, rfl, l_union, c_union, .inr ⟨(fun z => nomatch z), T_union, o_union, its_union, n_union, rfl, T1_union, T2_union, T3_union⟩, .inl rfl⟩, k_union⟩
  have b_union := bindsFull (ps := ["spans", "ends"]) F_union (fun z => nomatch z) fun _ _ _ _ _ _ _ us its h1 h2 => match us, its, h1, h2 with | [_, _], [_], _, _ => ⟨_, rfl, rfl⟩
  have b1_union := FunD.binds1 (ps := ["spans", "ends"]) F_union 1 0 (fun z => nomatch z) rfl fun _ _ _ _ _ _ _ us its h1 h2 => match us, its, h1, h2 with | [_], [_], _, _ => ⟨_, rfl, rfl⟩
  have kw_union := kwAll (ps := ["spans", "ends"]) F_union ["ends", "spans"] (fun l => List.reverse l) (fun z => nomatch z) vals_rev2 fun _ _ _ _ _ _ _ its ws h1 h2 => match its, ws, h1, h2 with | [_], [_, _], _, _ => ⟨_, rfl, rfl⟩
  have F_in_one_form : FunD K "in_one_form" "in_one_form" (defArgs s_in_one_form) (defBody s_in_one_form) (defScope s_in_one_form) [.str "half"] [] f_in_one_form _ := ⟨⟨oc_in_one_form, od_in_one_form, .ref T_in_one_form, kV_in_one_form, dc_in_one_form, pm_in_one_form, an_in_one_form, cd_in_one_form, ct_in_one_form, sl_in_one_form, rfl, l_in_one_form, c_in_one_form, .inr ⟨(fun z => nomatch z), T_in_one_form, o_in_one_form, its_in_one_form, n_in_one_form, rfl, T1_in_one_form, T2_in_one_form, T3_in_one_form⟩, .inl rfl⟩, k_in_one_form⟩
  have b_in_one_form := bindsFull (ps := ["spans", "ends"]) F_in_one_form (fun z => nomatch z) fun _ _ _ _ _ _ _ us its h1 h2 => match us, its, h1, h2 with | [_, _], [_], _, _ => ⟨_, rfl, rfl⟩
  have b1_in_one_form := FunD.binds1 (ps := ["spans", "ends"]) F_in_one_form 1 0 (fun z => nomatch z) rfl fun _ _ _ _ _ _ _ us its h1 h2 => match us, its, h1, h2 with | [_], [_], _, _ => ⟨_, rfl, rfl⟩
  have F_l_bag := fun_mk (st := s_l_bag) l_l_bag c_l_bag k_l_bag
  have b_l_bag := F_l_bag.binds (ps := ["_law_script", "_law_at"]) fun _ _ _ _ _ _ us hl => match us, hl with | [_, _], _ => rfl
  have F_l_take := fun_mk (st := s_l_take) l_l_take c_l_take k_l_take
  have b_l_take := F_l_take.binds (ps := ["_law_bag_here", "_law_many"]) fun _ _ _ _ _ _ us hl => match us, hl with | [_, _], _ => rfl
  have F_l_edge := fun_mk (st := s_l_edge) l_l_edge c_l_edge k_l_edge
  have b_l_edge := F_l_edge.binds (ps := ["_law_bag_here"]) fun _ _ _ _ _ _ us hl => match us, hl with | [_], _ => rfl
  have F_l_stretch := fun_mk (st := s_l_stretch) l_l_stretch c_l_stretch k_l_stretch
  have b_l_stretch := F_l_stretch.binds (ps := ["_law_bag_here"]) fun _ _ _ _ _ _ us hl => match us, hl with | [_], _ => rfl
  have F_l_holds := fun_mk (st := s_l_holds) l_l_holds c_l_holds k_l_holds
  have b_l_holds := F_l_holds.binds (ps := ["_law_pair", "_law_moment", "_law_mode"]) fun _ _ _ _ _ _ us hl => match us, hl with | [_, _, _], _ => rfl
  have F_l_moments := fun_mk (st := s_l_moments) l_l_moments c_l_moments k_l_moments
  have b_l_moments := F_l_moments.binds (ps := ["_law_pairs"]) fun _ _ _ _ _ _ us hl => match us, hl with | [_], _ => rfl
  have F_l_pairs_right := fun_mk (st := s_l_pairs_right) l_l_pairs_right c_l_pairs_right k_l_pairs_right
  have b_l_pairs_right := F_l_pairs_right.binds (ps := ["_law_found", "_law_count"]) fun _ _ _ _ _ _ us hl => match us, hl with | [_, _], _ => rfl
  have F_l_due := fun_mk (st := s_l_due) l_l_due c_l_due k_l_due
  have b_l_due := F_l_due.binds (ps := ["_law_rows", "_law_mode"]) fun _ _ _ _ _ _ us hl => match us, hl with | [_, _], _ => rfl
  have F_l_right := fun_mk (st := s_l_right) l_l_right c_l_right k_l_right
  have b_l_right := F_l_right.binds (ps := ["_law_rows", "_law_mode", "_law_is_by_name"]) fun _ _ _ _ _ _ us hl => match us, hl with | [_, _, _], _ => rfl
  have F_law := fun_mk (st := s_law) l_law c_law k_law
  refine ⟨PySem.W.fnOf "law" "law" (defArgs s_law) (defBody s_law) (defScope s_law) .none kV_law dc_law pm_law an_law cd_law ct_law, fun s v => .of_eq rfl, fun bh _ _ => ?_⟩
  have R_is_number : Rdy l.prog w K mg bh "is_number" 1 ["value"] (sp_is_number K) f_is_number _ := ⟨ok_is_number B T  F_is_number, PySem.W.mg_of X G a_is_number, k_is_number, b_is_number⟩
  have R_is_edge : Rdy l.prog w K mg bh "is_edge" 2 ["value"] (sp_is_edge K) f_is_edge _ := ⟨ok_is_edge B T R_is_number F_is_edge, PySem.W.mg_of X G a_is_edge, k_is_edge, b_is_edge⟩
  have R_is_pair : Rdy l.prog w K mg bh "is_pair" 3 ["value"] (sp_is_pair K) f_is_pair _ := ⟨ok_is_pair B T R_is_edge F_is_pair, PySem.W.mg_of X G a_is_pair, k_is_pair, b_is_pair⟩
  have R_is_stretch : Rdy l.prog w K mg bh "is_stretch" 4 ["value"] (sp_is_stretch K) f_is_stretch _ := ⟨ok_is_stretch B T R_is_pair F_is_stretch, PySem.W.mg_of X G a_is_stretch, k_is_stretch, b_is_stretch⟩
  have R_check_ends : Rdy l.prog w K mg bh "check_ends" 1 ["ends"] (sp_check_ends K) f_check_ends _ := ⟨ok_check_ends B T  F_check_ends, PySem.W.mg_of X G a_check_ends, k_check_ends, b_check_ends⟩
  have R_check_stretches : Rdy l.prog w K mg bh "check_stretches" 5 ["spans"] (sp_check_stretches K) f_check_stretches _ := ⟨ok_check_stretches B T R_is_stretch F_check_stretches, PySem.W.mg_of X G a_check_stretches, k_check_stretches, b_check_stretches⟩
  have R_is_empty : RdyD l.prog w K mg bh "is_empty" 2 ["pair", "ends"] [.str "half"] (sp_is_empty K) f_is_empty _ := ⟨ok_is_empty B T R_check_ends F_is_empty, PySem.W.mg_of X G a_is_empty, k_is_empty, b_is_empty, b1_is_empty⟩
  have R_join_sorted : Rdy l.prog w K mg bh "join_sorted" 1 ["spans"] (sp_join_sorted K) f_join_sorted _ := ⟨ok_join_sorted B T  F_join_sorted, PySem.W.mg_of X G a_join_sorted, k_join_sorted, b_join_sorted⟩
  have R_union : RdyD l.prog w K mg bh "union" 6 ["spans", "ends"] [.str "half"] (sp_union K) f_union _ := ⟨ok_union B T R_check_stretches R_check_ends R_join_sorted R_is_empty F_union, PySem.W.mg_of X G a_union, k_union, b_union, b1_union⟩
  have R_in_one_form : RdyD l.prog w K mg bh "in_one_form" 7 ["spans", "ends"] [.str "half"] (sp_in_one_form K) f_in_one_form _ := ⟨ok_in_one_form B T R_union F_in_one_form, PySem.W.mg_of X G a_in_one_form, k_in_one_form, b_in_one_form, b1_in_one_form⟩
  have R_l_bag : Rdy l.prog w K mg bh "_law_bag" 1 ["_law_script", "_law_at"] (sp_l_bag K) f_l_bag _ := ⟨ok_l_bag B T  F_l_bag, PySem.W.mg_of X G a_l_bag, k_l_bag, b_l_bag⟩
  have R_l_take : Rdy l.prog w K mg bh "_law_take" 1 ["_law_bag_here", "_law_many"] (sp_l_take K) f_l_take _ := ⟨ok_l_take B T  F_l_take, PySem.W.mg_of X G a_l_take, k_l_take, b_l_take⟩
  have R_l_edge : Rdy l.prog w K mg bh "_law_edge" 2 ["_law_bag_here"] (sp_l_edge K) f_l_edge _ := ⟨ok_l_edge B T R_l_take F_l_edge, PySem.W.mg_of X G a_l_edge, k_l_edge, b_l_edge⟩
  have R_l_stretch : Rdy l.prog w K mg bh "_law_stretch" 3 ["_law_bag_here"] (sp_l_stretch K) f_l_stretch _ := ⟨ok_l_stretch B T R_l_take R_l_edge F_l_stretch, PySem.W.mg_of X G a_l_stretch, k_l_stretch, b_l_stretch⟩
  have R_l_holds : Rdy l.prog w K mg bh "_law_holds" 1 ["_law_pair", "_law_moment", "_law_mode"] (sp_l_holds K) f_l_holds _ := ⟨ok_l_holds B T  F_l_holds, PySem.W.mg_of X G a_l_holds, k_l_holds, b_l_holds⟩
  have R_l_moments : Rdy l.prog w K mg bh "_law_moments" 1 ["_law_pairs"] (sp_l_moments K) f_l_moments _ := ⟨ok_l_moments B T  F_l_moments, PySem.W.mg_of X G a_l_moments, k_l_moments, b_l_moments⟩
  have R_l_pairs_right : Rdy l.prog w K mg bh "_law_pairs_right" 1 ["_law_found", "_law_count"] (sp_l_pairs_right K) f_l_pairs_right _ := ⟨ok_l_pairs_right B T  F_l_pairs_right, PySem.W.mg_of X G a_l_pairs_right, k_l_pairs_right, b_l_pairs_right⟩
  have R_l_due : Rdy l.prog w K mg bh "_law_due" 1 ["_law_rows", "_law_mode"] (sp_l_due K) f_l_due _ := ⟨ok_l_due B T  F_l_due, PySem.W.mg_of X G a_l_due, k_l_due, b_l_due⟩
  have R_l_right : Rdy l.prog w K mg bh "_law_right" 8 ["_law_rows", "_law_mode", "_law_is_by_name"] (sp_l_right K) f_l_right _ := ⟨ok_l_right B T R_l_moments R_union kw_union R_l_pairs_right R_l_due R_in_one_form R_l_holds F_l_right, PySem.W.mg_of X G a_l_right, k_l_right, b_l_right⟩
  exact ok_law B T R_l_bag R_l_take R_l_stretch R_union R_l_due R_l_right F_law
end
end Spk
open PySem PySem.W PyProof.Rows
set_option maxHeartbeats 0 in
theorem PySem.Challenge.cw_spanloops_k03_whole_unions_holds : PySem.Challenge.rw_spanloops_k03_whole_unions.Holds := by
  w_on; o_law; k_head; (case hw => w_witness2)
  k_fill
  refine Spk.walkG (l := PySem.Challenge.rw_spanloops_k03_whole_unions) (n := 63) (k := 9) (x := "_law_script") (sp := fun w => Spk.sp_law _) rfl (by decide) rfl ⟨rfl, by decide, by decide⟩ (fun w h Y => PySem.W.kIn_of Y) ?F (fun _ _ a ns hl _ hS => ⟨a, ns, rfl, hS, hl, fun _ => rfl⟩)
  case F =>
    intro w mg fa h KX G hmg
    refine' Spk.all_mk KX G hmg ?z_abs ?z_bool ?z_enumerate ?z_int ?z_isinstance ?z_len ?z_list ?z_max ?z_min ?z_range ?z_reversed ?z_set ?z_sorted ?z_tuple ?z_zip ?c_FIRST ?c_LAST ?c_FAR ?e_g ?e_rd ?e_ga ?e_1 ?e_2 ?a_is_number ?l_is_number ?c_is_number ?k_is_number ?a_is_edge ?l_is_edge ?c_is_edge ?k_is_edge ?a_is_pair ?l_is_pair ?c_is_pair ?k_is_pair ?a_is_stretch ?l_is_stretch ?c_is_stretch ?k_is_stretch ?a_check_ends ?l_check_ends ?c_check_ends ?k_check_ends ?a_check_stretches ?l_check_stretches ?c_check_stretches ?k_check_stretches ?a_is_empty ?l_is_empty ?c_is_empty ?k_is_empty ?T1_is_empty ?T2_is_empty ?T3_is_empty ?a_join_sorted ?l_join_sorted ?c_join_sorted ?k_join_sorted ?a_union ?l_union ?c_union ?k_union ?T1_union ?T2_union ?T3_union ?a_in_one_form ?l_in_one_form ?c_in_one_form ?k_in_one_form ?T1_in_one_form ?T2_in_one_form ?T3_in_one_form ?a_l_bag ?l_l_bag ?c_l_bag ?k_l_bag ?a_l_take ?l_l_take ?c_l_take ?k_l_take ?a_l_edge ?l_l_edge ?c_l_edge ?k_l_edge ?a_l_stretch ?l_l_stretch ?c_l_stretch ?k_l_stretch ?a_l_holds ?l_l_holds ?c_l_holds ?k_l_holds ?a_l_moments ?l_l_moments ?c_l_moments ?k_l_moments ?a_l_pairs_right ?l_l_pairs_right ?c_l_pairs_right ?k_l_pairs_right ?a_l_due ?l_l_due ?c_l_due ?k_l_due ?a_l_right ?l_l_right ?c_l_right ?k_l_right ?a_law ?l_law ?c_law ?k_law
    (case z_abs => k_is)
    (case z_bool => k_is)
    (case z_enumerate => k_is)
    (case z_int => k_is)
    (case z_isinstance => k_is)
    (case z_len => k_is)
    (case z_list => k_is)
    (case z_max => k_is)
    (case z_min => k_is)
    (case z_range => k_is)
    (case z_reversed => k_is)
    (case z_set => k_is)
    (case z_sorted => k_is)
    (case z_tuple => k_is)
    (case z_zip => k_is)
    (case c_FIRST => k_is)
    (case c_LAST => k_is)
    (case c_FAR => k_is)
    (case e_g => k_is)
    (case e_rd => k_is)
    (case e_ga => k_is)
    (case e_1 => k_is)
    (case e_2 => k_is)
    (case a_is_number => k_is)
    (case l_is_number => k_is)
    (case c_is_number => k_is)
    (case k_is_number => k_is)
    (case a_is_edge => k_is)
    (case l_is_edge => k_is)
    (case c_is_edge => k_is)
    (case k_is_edge => k_is)
    (case a_is_pair => k_is)
    (case l_is_pair => k_is)
    (case c_is_pair => k_is)
    (case k_is_pair => k_is)
    (case a_is_stretch => k_is)
    (case l_is_stretch => k_is)
    (case c_is_stretch => k_is)
    (case k_is_stretch => k_is)
    (case a_check_ends => k_is)
    (case l_check_ends => k_is)
    (case c_check_ends => k_is)
    (case k_check_ends => k_is)
    (case a_check_stretches => k_is)
    (case l_check_stretches => k_is)
    (case c_check_stretches => k_is)
    (case k_check_stretches => k_is)
    (case a_is_empty => k_is)
    (case l_is_empty => k_is)
    (case c_is_empty => k_is)
    (case k_is_empty => k_is)
    (case T1_is_empty => k_is)
    (case T2_is_empty => first | rfl | k_is)
    (case T3_is_empty => exact .cons ⟨_, rfl⟩ .nil)
    (case a_join_sorted => k_is)
    (case l_join_sorted => k_is)
    (case c_join_sorted => k_is)
    (case k_join_sorted => k_is)
    (case a_union => k_is)
    (case l_union => k_is)
    (case c_union => k_is)
    (case k_union => k_is)
    (case T1_union => k_is)
    (case T2_union => first | rfl | k_is)
    (case T3_union => exact .cons ⟨_, rfl⟩ .nil)
    (case a_in_one_form => k_is)
    (case l_in_one_form => k_is)
    (case c_in_one_form => k_is)
    (case k_in_one_form => k_is)
    (case T1_in_one_form => k_is)
    (case T2_in_one_form => first | rfl | k_is)
    (case T3_in_one_form => exact .cons ⟨_, rfl⟩ .nil)
    (case a_l_bag => k_is)
    (case l_l_bag => k_is)
    (case c_l_bag => k_is)
    (case k_l_bag => k_is)
    (case a_l_take => k_is)
    (case l_l_take => k_is)
    (case c_l_take => k_is)
    (case k_l_take => k_is)
    (case a_l_edge => k_is)
    (case l_l_edge => k_is)
    (case c_l_edge => k_is)
    (case k_l_edge => k_is)
    (case a_l_stretch => k_is)
    (case l_l_stretch => k_is)
    (case c_l_stretch => k_is)
    (case k_l_stretch => k_is)
    (case a_l_holds => k_is)
    (case l_l_holds => k_is)
    (case c_l_holds => k_is)
    (case k_l_holds => k_is)
    (case a_l_moments => k_is)
    (case l_l_moments => k_is)
    (case c_l_moments => k_is)
    (case k_l_moments => k_is)
    (case a_l_pairs_right => k_is)
    (case l_l_pairs_right => k_is)
    (case c_l_pairs_right => k_is)
    (case k_l_pairs_right => k_is)
    (case a_l_due => k_is)
    (case l_l_due => k_is)
    (case c_l_due => k_is)
    (case k_l_due => k_is)
    (case a_l_right => k_is)
    (case l_l_right => k_is)
    (case c_l_right => k_is)
    (case k_l_right => k_is)
    (case a_law => k_is)
    (case l_law => k_is)
    (case c_law => k_is)
    (case k_law => k_is)
