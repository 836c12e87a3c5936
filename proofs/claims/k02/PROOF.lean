import PyProof.Rows.All
import Wide.All
import OpenK.AllK
import Wide.FinOn
import PySem.Challenge.RW_spanloops_k02_pairs_hold_moments
import HandS.ForMost
import HandS.Wide
import HandS.Walk
import HandS.SortRule
import HandS.Defaults
import HandS.IsInst
import HandS.ClsMeth
import HandS.TupLe
import KE.GoesMore
import HandS.ForExc
import HandS.TryMany
import HandS.ExcInit
import HandS.ExcField
import HandS.ExcIs
import HandS.CallSlots
import HandS.Deep
import KE.KExcIs
set_option Elab.async false
set_option linter.all false
set_option maxRecDepth 100000
set_option maxHeartbeats 4000000
namespace Spk
/-! ### pairs of edges, the union as a function on lists of pairs -/
abbrev Pr := Int × Int
def ple (p q : Pr) : Prop := p.1 < q.1 ∨ (p.1 = q.1 ∧ p.2 ≤ q.2)
instance (p q : Pr) : Decidable (ple p q) := inferInstanceAs (Decidable (_ ∨ _))
theorem ple_trans {p q r : Pr} (a : ple p q) (b : ple q r) : ple p r := by unfold ple at *; omega
theorem ple_total (p q : Pr) : ple p q ∨ ple q p := by unfold ple; omega
theorem ple_anti {p q : Pr} (a : ple p q) (b : ple q p) : p = q := by
  obtain ⟨x, y⟩ := p; obtain ⟨z, w⟩ := q
  simp only [ple] at a b
  have : x = z := by omega
  have : y = w := by omega
  subst x; subst y; rfl
theorem ple_refl (p : Pr) : ple p p := by unfold ple; omega
def ins (p : Pr) : List Pr → List Pr
  | [] => [p]
  | q :: r => if ple p q then p :: q :: r else q :: ins p r
def srt : List Pr → List Pr
  | [] => []
  | p :: r => ins p (srt r)
theorem ins_perm (p : Pr) : ∀ l, (ins p l).Perm (p :: l)
  | [] => .refl _
  | q :: r => by
    unfold ins
    split
    · exact .refl _
    · exact ((ins_perm p r).cons q).trans (List.Perm.swap p q r)
theorem srt_perm : ∀ l, (srt l).Perm l
  | [] => .refl _
  | p :: r => (ins_perm p _).trans ((srt_perm r).cons p)
theorem ins_sorted (p : Pr) : ∀ l, l.Pairwise ple → (ins p l).Pairwise ple
  | [], _ => by simp [ins]
  | q :: r, h => by
    unfold ins
    have hq := List.pairwise_cons.mp h
    split
    · rename_i c
      refine List.pairwise_cons.mpr ⟨fun y hy => ?_, h⟩
      rcases List.mem_cons.mp hy with e | hy
      · exact e ▸ c
      · exact ple_trans c (hq.1 y hy)
    · rename_i c
      refine List.pairwise_cons.mpr ⟨fun y hy => ?_, ins_sorted p r hq.2⟩
      have := (ins_perm p r).mem_iff.mp hy
      rcases List.mem_cons.mp this with e | hy
      · rw [e]; exact (ple_total p q).resolve_left c
      · exact hq.1 y hy
theorem srt_sorted : ∀ l, (srt l).Pairwise ple
  | [] => List.Pairwise.nil
  | p :: r => ins_sorted p _ (srt_sorted r)
theorem sorted_uniq : ∀ {l m : List Pr}, l.Pairwise ple → m.Pairwise ple → l.Perm m → l = m
  | [], m, _, _, h => (List.Perm.nil_eq h)
  | x :: l, [], _, _, h => absurd h.length_eq (by simp)
  | x :: l, y :: m, hl, hm, h => by
    have h1 := List.pairwise_cons.mp hl
    have h2 := List.pairwise_cons.mp hm
    have a : ple x y := by
      rcases List.mem_cons.mp (h.mem_iff.mpr (List.mem_cons_self (a := y) (l := m))) with e | q
      · rw [e]; exact ple_refl x
      · exact h1.1 y q
    have b : ple y x := by
      rcases List.mem_cons.mp (h.mem_iff.mp (List.mem_cons_self (a := x) (l := l))) with e | q
      · rw [e]; exact ple_refl y
      · exact h2.1 x q
    have e := ple_anti a b
    subst e
    rw [sorted_uniq h1.2 h2.2 h.cons_inv]
/-- one turn of join_sorted's loop -/
def stepJ (s : List Pr × Pr) (p : Pr) : List Pr × Pr :=
  if s.2.2 < p.1 then (s.1 ++ [s.2], p) else (s.1, (s.2.1, if s.2.2 < p.2 then p.2 else s.2.2))
def joinF : List Pr → List Pr
  | [] => []
  | p :: r => let s := (p :: r).foldl stepJ ([], p); s.1 ++ [s.2]
/-- the same by recursion -/
def joinG (c : Pr) : List Pr → List Pr
  | [] => [c]
  | p :: r => if c.2 < p.1 then c :: joinG p r else joinG (c.1, if c.2 < p.2 then p.2 else c.2) r
theorem fold_joinG : ∀ (l : List Pr) (acc : List Pr) (c : Pr), (let s := l.foldl stepJ (acc, c); s.1 ++ [s.2]) = acc ++ joinG c l
  | [], acc, c => rfl
  | p :: r, acc, c => by
    simp only [List.foldl_cons, joinG, stepJ]
    split
    · have := fold_joinG r (acc ++ [c]) p
      simp only at this
      rw [this, List.append_assoc]; rfl
    · have := fold_joinG r acc (c.1, if c.2 < p.2 then p.2 else c.2)
      simp only at this
      rw [this]
def joinM : List Pr → List Pr
  | [] => []
  | p :: r => joinG p (p :: r)
theorem joinF_eq : ∀ l, joinF l = joinM l
  | [] => rfl
  | p :: r => by
    have := fold_joinG (p :: r) [] p
    simp only [List.nil_append] at this
    exact this
def gapd : List Pr → Bool
  | [] => true
  | [_] => true
  | p :: q :: r => decide (p.2 < q.1) && gapd (q :: r)
/-- z: whether ends are read as shut -/
def emp (z : Bool) (p : Pr) : Bool := if z then decide (p.2 < p.1) else decide (p.2 ≤ p.1)
def unionM (z : Bool) (l : List Pr) : List Pr := joinM (srt (l.filter fun p => !emp z p))
def oneF (z : Bool) (l : List Pr) : Bool := l.all (fun p => !emp z p) && gapd l
theorem joinG_head : ∀ (l : List Pr) (c : Pr), ∃ h r, joinG c l = (c.1, h) :: r
  | [], c => ⟨c.2, [], rfl⟩
  | p :: r, c => by
    unfold joinG
    split
    · exact ⟨c.2, _, rfl⟩
    · exact joinG_head r (c.1, if c.2 < p.2 then p.2 else c.2)
theorem joinG_gapd : ∀ (l : List Pr) (c : Pr), gapd (joinG c l) = true
  | [], c => rfl
  | p :: r, c => by
    unfold joinG
    split
    · rename_i h
      obtain ⟨hh, rr, e⟩ := joinG_head r p
      have ih := joinG_gapd r p
      rw [e] at ih ⊢
      unfold gapd
      rw [ih, decide_eq_true (by exact h)]; rfl
    · exact joinG_gapd r _
theorem joinG_full {z : Bool} : ∀ (l : List Pr) (c : Pr), emp z c = false → (∀ p ∈ l, emp z p = false) → ∀ p ∈ joinG c l, emp z p = false
  | [], c, hc, _, p, hp => by
    rw [joinG] at hp
    obtain rfl : p = c := by simpa using hp
    exact hc
  | q :: r, c, hc, hl, p, hp => by
    unfold joinG at hp
    split at hp
    · rcases List.mem_cons.mp hp with e | hp
      · exact e ▸ hc
      · exact joinG_full r q (hl q (by simp)) (fun x hx => hl x (by simp [hx])) p hp
    · refine joinG_full r _ ?_ (fun x hx => hl x (by simp [hx])) p hp
      unfold emp at hc ⊢
      cases z <;> simp at hc ⊢ <;> split <;> omega
theorem joinM_one {z : Bool} {l : List Pr} (h : ∀ p ∈ l, emp z p = false) : oneF z (joinM l) = true := by
  cases l with
  | nil => rfl
  | cons p r =>
    unfold oneF joinM
    rw [joinG_gapd, Bool.and_true, List.all_eq_true]
    intro q hq
    rw [joinG_full (z := z) (p :: r) p (h p (by simp)) h q hq]; rfl
theorem joinG_id : ∀ (l : List Pr) (c : Pr), gapd (c :: l) = true → joinG c l = c :: l
  | [], c, _ => rfl
  | p :: r, c, h => by
    unfold gapd at h
    rw [Bool.and_eq_true, decide_eq_true_eq] at h
    unfold joinG
    rw [if_pos h.1, joinG_id r p h.2]
theorem joinM_id {l : List Pr} (h : gapd l = true) (hs : ∀ p ∈ l, p.1 ≤ p.2) : joinM l = l := by
  cases l with
  | nil => rfl
  | cons p r =>
    have : p.1 ≤ p.2 := hs p (by simp)
    show joinG p (p :: r) = p :: r
    unfold joinG
    rw [if_neg (show ¬ p.2 < p.1 by omega), if_neg (show ¬ p.2 < p.2 by omega)]
    exact joinG_id r p h
theorem gapd_tail {p : Pr} {r : List Pr} (h : gapd (p :: r) = true) : gapd r = true := by
  cases r with
  | nil => rfl
  | cons q r => unfold gapd at h; rw [Bool.and_eq_true] at h; exact h.2
theorem gapd_lt : ∀ {p : Pr} {r : List Pr}, gapd (p :: r) = true → (∀ q ∈ r, q.1 ≤ q.2) → ∀ q ∈ r, p.2 < q.1
  | p, [], _, _, q, hq => by simp at hq
  | p, q :: r, h, hs, x, hx => by
    unfold gapd at h
    rw [Bool.and_eq_true, decide_eq_true_eq] at h
    rcases List.mem_cons.mp hx with e | hx
    · exact e ▸ h.1
    · have := gapd_lt h.2 (fun y hy => hs y (by simp [hy])) x hx
      have := hs q (by simp)
      omega
theorem gapd_sorted : ∀ {l : List Pr}, gapd l = true → (∀ q ∈ l, q.1 ≤ q.2) → l.Pairwise ple
  | [], _, _ => .nil
  | p :: r, h, hs => List.pairwise_cons.mpr ⟨fun q hq => by
      have := gapd_lt h (fun y hy => hs y (by simp [hy])) q hq
      have := hs p (by simp)
      exact .inl (by omega), gapd_sorted (gapd_tail h) fun y hy => hs y (by simp [hy])⟩
/-- the union leaves a list as it is just where the list is in one form -/
theorem union_fix {z : Bool} {l : List Pr} (hs : ∀ p ∈ l, p.1 ≤ p.2) : unionM z l = l ↔ oneF z l = true := by
  constructor
  · intro h
    rw [← h]
    unfold unionM
    refine joinM_one fun p hp => ?_
    have := (srt_perm _).mem_iff.mp hp
    have := (List.mem_filter.mp this).2
    simpa using this
  · intro h
    unfold oneF at h
    rw [Bool.and_eq_true, List.all_eq_true] at h
    unfold unionM
    have e1 : l.filter (fun p => !emp z p) = l := List.filter_eq_self.mpr h.1
    have e2 : srt l = l := sorted_uniq (srt_sorted l) (gapd_sorted h.2 hs) (srt_perm l)
    rw [e1, e2, joinM_id h.2 hs]
end Spk

namespace Spk
open PySem PySem.Spec PyProof.Rows L2
/-! Defs that are run where no repr is under way: the layer's rule of a def, with that known of the place. -/
structure FnG (P : Program) (w : World) (K : PySem.W.Frag) (mg : Str → Option Value) (bh : Heap) (k : Nat) (f : Addr) (fd : FuncData) (ps : List Str) (sp : Sp) : Prop where
  lenG : ∀ ws J R U, sp ws J R U → ws.length = ps.length
  runG : ∀ (B : Around) (ou : List Env) (t : Shared) (J : Hp) (ar : Args) (xs : List Value) (ws : List V) (R : VK) (U : XK), B.guards = some [] → Room k B →
    Env0 P w K mg bh B ou t J → BindsTo t fd ar (ps.zip xs) → Vals ws xs → sp ws J R U →
    codeAny (model P w) B (.call (.ref f) ar) (CR CX0 ou P w J t R U) t
section
variable {P : Program} {w : World} {K : PySem.W.Frag} {mg : Str → Option Value} {bh : Heap}
theorem fnG_of {k : Nat} {f : Addr} {nm qu : Str} {pr : Arguments} {bd : List Stmt} {sc : Scope} {v1 v2 v3 v4 v5 v6 v7 : Value} {o1 o2 : Option Addr}
    {sl : Array (Option Value)} {N ps : List Str} {sp : Sp}
    (lk : K.lookup f = some ⟨v7, o2, .func (PySem.W.fnOf nm qu pr bd sc v1 v2 v3 v4 o1 v5 v6), sl⟩)
    (hcd : PySem.W.codeIn K v5 qu = true) (S : FnScope N ps sc)
    (ln : ∀ ws J R U, sp ws J R U → ws.length = ps.length)
    (hb : ∀ (B : Around) (ou : List Env) (t : Shared) (J : Hp) (ws : List V) (R : VK) (U : XK), B.guards = some [] →
      Room k (B.deeper (envOfC qu sc t.heap.objs.size f v5)) → sp ws J R U →
      ∃ tr, PSs (cxOf CX0 P w K mg bh N qu sc f v5 B ou t J U) bd tr ∧ tr { nx := fun _ J' => R .non J', rt := R } (L2.start N ws) J) :
    FnG P w K mg bh (k + 1) f (PySem.W.fnOf nm qu pr bd sc v1 v2 v3 v4 o1 v5 v6) ps sp := by
  refine ⟨ln, fun B ou t J ar xs ws R U hgd rm e0 bi rl hsp => ?_⟩
  have hlen := ln _ _ _ _ hsp
  have kin : K.In t.heap := e0.mod.kin.keeps fun z y q => (e0.bs z y q).1
  have nol : t.heap.NoLimit := e0.mod.nolimit.keeps fun z y q => (e0.bs z y q).1
  refine codeAny_call_function rm.depth (kin _ _ lk) rfl S.co S.gen rfl (PySem.W.codeRec_of kin hcd) (bi _ _ _ _ ?_)
  refine wpAny_newFunctionEnv_cells S.kind ?_ fun en hen s1 ic => ?_
  · rintro ⟨n, v⟩ hy
    exact (S.par n (List.of_mem_zip hy).1).imp id fun q => ⟨q, PySem.W.cellsFrom_some _ _ _ (.inl q)⟩
  · subst hen
    refine ⟨nol.keeps ic.toInCall.keep, codeAny_func ?_⟩
    obtain ⟨tr, htr, hq⟩ := hb B ou t J ws R U hgd (rm.deeper _) hsp
    have iv : Inv (cxOf CX0 P w K mg bh N qu sc f v5 B ou t J U) [] (L2.start N ws) J s1 := inv_start S rm.hd e0 hlen rl ic
    refine wpAny_mono (htr.run [] s1 (L2.start N ws) J _ iv hq) (fun fl s2 hs => ?_) fun _ _ hs => hs
    cases fl with
    | ret u =>
      obtain ⟨v, _, J', I', rv, q⟩ := hs
      exact ⟨v, J', I'.os, I'.bare, I'.base, I'.hok, rv, q⟩
    | next =>
      obtain ⟨_, J', I', q⟩ := hs
      exact ⟨.non, J', I'.os, I'.bare, I'.base, I'.hok, rfl, q⟩
    | brk => exact hs.elim fun _ h => h.elim fun _ h => h.2.elim
    | cont => exact hs.elim fun _ h => h.elim fun _ h => h.2.elim
theorem Fun.okG {x qu : Str} {st : Stmt} {f : Addr} {fd : FuncData} {N ps : List Str} {k : Nat} {sp : Sp} (F : Fun K x qu st f fd) (S : FnScope N ps (defScope st))
    (ln : ∀ ws J R U, sp ws J R U → ws.length = ps.length)
    (hb : ∀ (cv : Value) (B : Around) (ou : List Env) (t : Shared) (J : Hp) (ws : List V) (R : VK) (U : XK), B.guards = some [] →
      Room k (B.deeper (envOfC qu (defScope st) t.heap.objs.size f cv)) → sp ws J R U →
      ∃ tr, PSs (cxOf CX0 P w K mg bh N qu (defScope st) f cv B ou t J U).nox (defBody st) tr ∧ tr { nx := fun _ J' => R .non J', rt := R } (L2.start N ws) J) :
    FnG P w K mg bh (k + 1) f fd ps sp := by
  obtain ⟨_, _, _, _, _, _, cv, _, _, rfl, lk, hcd⟩ := F.ex
  refine fnG_of lk hcd S ln fun B ou t J ws R U hgd rm hsp => ?_
  obtain ⟨tr, h, q⟩ := hb cv B ou t J ws R U hgd rm hsp
  exact ⟨tr, h.nox, q⟩
theorem FnG.of {k : Nat} {f : Addr} {fd : FuncData} {ps : List Str} {sp : Sp} (F : FnOk P w K mg bh CX0 k f fd ps sp) : FnG P w K mg bh k f fd ps sp :=
  ⟨F.len, fun B ou t J ar xs ws R U _ rm e0 bi rl h => F.run B ou t J ar xs ws R U rm e0 bi rl h⟩
end
section
variable {X : Cx} {k : Nat} {f : Addr} {fd : FuncData} {ps : List Str} {sp : Sp} {dvs : List V} {ds : List Value} {x : Str} {p pos : Pos} {e : Expr} {es : List Expr} {t : TA}
theorem run_fnG {pins : List (Addr × Obj)} {σ : L2.St} {J : Hp} {s : Shared} {R : VK} {xs : List Value} {ws : List V} (F : FnG X.prog X.w X.K X.mg X.base k f fd ps sp) (gd : X.A.guards = some []) (rm : Room k X.A)
    (bi : Binds X.K fd ps ds) (dd : Vals dvs ds) (I : Inv X pins σ J s) (rl : Vals ws xs) (h : sp (ws ++ dvs) J R E0) :
    wpAny (model X.prog X.w) X.A (call (.ref f) xs) (EP X pins σ R) X.xe s := by
  have r2 : Vals (ws ++ dvs) (xs ++ ds) := rl.append dd
  have hl : (xs ++ ds).length = ps.length := r2.length.symm.trans (F.lenG _ _ _ _ h)
  refine wpAny_call (codeAny_mono (F.runG X.A X.stack s J ⟨xs, []⟩ (xs ++ ds) (ws ++ dvs) R E0 gd rm I.env0 (bi s xs I.kIn hl) r2 h) fun r s' hq => ?_)
  match r, hq with
  | .ok (.ret u), hq => exact I.after hq
/-- f(e, ..), f a def that wants no repr under way -/
theorem pe_callG (F : FnG X.prog X.w X.K X.mg X.base k f fd ps sp) (gd : X.A.guards = some []) (rm : Room k X.A) (hg : Gl X x) (hm : X.mg x = some (.ref f)) (hk : PySem.W.keepIn X.K (.ref f) = true)
    (bi : Binds X.K fd ps ds) (dd : Vals dvs ds) (ha : PA X (e :: es) t) (hdb : (x == ("__debug__" : Str)) = false := by decide)
    (he : starEach (e :: es) X.env = (false, eval e X.env) :: starEach es X.env := by rfl) (hpl : (backTo pos (starEach es X.env)).any (·.1) = false := by rfl) :
    PE X (.Call (.Name x p) (e :: es) [] pos) (tCall sp dvs E0 t) := by
  refine ⟨fun pins s σ J R I h => wpAny_Call_Name_kw (ld_glob I hg hm ?_ hdb)⟩
  refine PySem.W.callWith_K (h₀ := X.base) I.ok.mod.kin hk (thn (ha.run pos pins s σ J _ I h) fun xs s1 hh => ?_) he hpl
  obtain ⟨ws, J1, I1, rl, q⟩ := hh
  exact ⟨I1.kIn, run_fnG F gd rm bi dd I1 rl q⟩
/-- repr of data: None, bools, ints, texts, lists and tuples of these, where no repr is under way -/
def rRepr (K : PySem.W.Frag) : List V → Hp → VK → Prop := fun xs J R => ∃ (x : V) (d : PyData), xs = [x] ∧ Dp K J x d ∧ d.showable = true ∧ d.hasDict = false ∧ d.depth ≤ 64 ∧ d.shown.length ≤ sizeLine ∧ R (.str d.shown) J
theorem call_reprD (gd : X.A.guards = some []) (rm : Room k X.A) : CallR X (.builtin "repr") (rRepr X.K) := by
  intro pins s σ J xs us R I r h
  obtain ⟨x, d, rfl, dp, hs, hnd, hdep, hz, q⟩ := h
  have hu : X.A.units + (d.depth + 1) < cLine := by have := rm.un; omega
  obtain ⟨u, rfl, ru⟩ := vals1 r
  obtain ⟨as, rd⟩ := Dp.reads I d x u dp ru
  have fin : ∀ h' tk, (∀ b o, s.heap.get? b = some o → h'.get? b = some o) → ∀ t, EP X pins σ R (.str d.shown t) { s with heap := h', toks := tk } := fun h' tk hk t =>
    ⟨.str d.shown, J, I.kept (t' := tk) hk, ⟨t, rfl⟩, q⟩
  cases dp with
  | non =>
    obtain rfl : u = Value.none := ru
    refine PySem.P.repr_of_none ?_
    have := fin s.heap (s.toks + 1) (fun _ _ z => z) s.toks
    simpa only [PyData.shown_none] using this
  | bl b =>
    obtain rfl : u = Value.bool b := ru
    refine PySem.P.repr_of_bool ?_
    have := fin s.heap (s.toks + 1) (fun _ _ z => z) s.toks
    simp only [PyData.shown_bool] at this
    cases b <;> exact this
  | int i =>
    obtain ⟨t, rfl⟩ := ru
    refine PySem.P.repr_of_int (by simpa [PyData.showable] using hs) ?_
    have := fin s.heap (s.toks + 1) (fun _ _ z => z) s.toks
    simpa only [PyData.shown_int] using this
  | str y =>
    obtain ⟨t, rfl⟩ := ru
    refine PySem.P.repr_of_str ?_ (by simpa only [PyData.shown_str] using hz)
    have := fin s.heap (s.toks + 1) (fun _ _ z => z) s.toks
    simpa only [PyData.shown_str] using this
  | @lst a ys ds sq da =>
    obtain rfl : u = Value.ref a := ru
    exact repr_of_reads' rd hs (fun z => absurd z (by rw [hnd]; decide)) gd hu (fun _ _ z => z) (fun h' t tk hk => fin h' tk hk t) hz
  | @tup a ys ds sq da =>
    obtain rfl : u = Value.ref a := ru
    exact repr_of_reads' rd hs (fun z => absurd z (by rw [hnd]; decide)) gd hu (fun _ _ z => z) (fun h' t tk hk => fin h' tk hk t) hz
end
end Spk

namespace Spk
open PySem PySem.Spec PyProof.Rows L2
section
variable {P : Program} {w : World} {K : PySem.W.Frag} {mg mb : Str → Option Value} {k : Nat} {fa a : Addr} {fd : FuncData} {x : Str} {sp : Sp} {t : Shared} {zs : List Value} {ns : List Int}
def Fin1 (t : Shared) (r : Result) (u : Shared) : Prop := r = .ok (.ret (.bool true)) ∧ OldK t.heap u.heap ∧ u.os = t.os ∧ AllBare u.gens
/-- the law's call, from a heap that tracks nothing but the script (or nothing) -/
theorem coreG {J : Hp} (KX : K.In t.heap) (hns : t.heap.Ns mainGlobals mg) (hb : t.heap.Ns builtinsNs mb) (hbb : ∀ y : Str, y ≠ "__name__" → mb y = bootBuiltins y) (hlim : t.heap.NoLimit) (hg : t.gens = #[])
    (ha : t.heap.get? a = some { cls := .type "list", data := .seq zs.toArray }) (rm : Room k callerA)
    (F : ∀ bh : Heap, K.In bh → bh.Ns mainGlobals mg → FnG P w K mg bh k fa fd [x] sp) (bi : ∀ (s : Shared) (u : Value), BindsTo s fd ⟨[u], []⟩ [(x, u)])
    (hO : Only J) (hok : HOk P w J t.heap) (hA : ∀ b, J b ≠ none → b = a) (hK : J a ≠ none → K.lookup a = none)
    (hsp : sp [.ref a] J (fun v _ => v = .bl true) E0) : codeAny (model P w) callerA (.call (.ref fa) ⟨[.ref a], []⟩) (Fin1 t) t := by
  have gone : ∀ b o es ep, t.heap.get? b = some o → o.data = .dict es ep → J b = none := by
    intro b o es ep e d
    cases q : J b with
    | none => rfl
    | some u =>
      obtain rfl : b = a := hA b (by rw [q]; exact fun z => nomatch z)
      obtain rfl : _ = o := Option.some.inj (ha.symm.trans e)
      exact nomatch (show Data.seq zs.toArray _ = Data.dict es ep from d)
  have ns' : ∀ b m, t.heap.Ns b m → (hidT t.heap J).Ns b m := by
    rintro b m ⟨o, es, ep, e, d, r⟩
    exact ⟨o, es, ep, hidT_get e (gone b o es ep e d), d, r⟩
  have kb : K.In (hidT t.heap J) := by
    intro b o e
    refine hidT_get (KX b o e) ?_
    cases q : J b with
    | none => rfl
    | some u =>
      obtain rfl : b = a := hA b (by rw [q]; exact fun z => nomatch z)
      exact absurd e (by rw [hK (by rw [q]; exact fun z => nomatch z)]; exact fun z => nomatch z)
  have md : Mod K mg (hidT t.heap J) := ⟨kb, ns' _ _ hns, ⟨mb, ns' _ _ hb, hbb⟩, hlim.imp fun mc h => ⟨ns' _ _ h.1, h.2⟩⟩
  have e0 : Env0 P w K mg (hidT t.heap J) callerA [] t J :=
    { frames := rfl, mod := md, bs := fun _ _ e => of_hidT e, bsz := Nat.le_of_eq (hidT_size _ _), funs := trivial, frf := (fun _ h => nomatch h), hok := hok, bare := .of_eq hg }
  refine codeAny_mono ((F _ kb (ns' _ _ hns)).runG callerA [] t J ⟨[.ref a], []⟩ [.ref a] [.ref a] _ E0 rfl rm e0 (bi t (.ref a)) (.cons rfl .nil) hsp) fun r u h => ?_
  match r, h with
  | .ok (.ret y), h =>
    obtain ⟨v, J', os, bare, un, hok', ry, q⟩ := h
    obtain rfl : v = .bl true := q
    obtain rfl : y = Value.bool true := ry
    refine ⟨rfl, OldK.of_keep fun b o e => ?_, os, bare⟩
    rcases hO b with z | ⟨ob, xs, z⟩
    · exact un.keep b o e z (fun h => nomatch h) (fun h => nomatch h)
    · have e1 := (hok b _ z).1
      have e2 := (hok' b _ (un.frzs b ob _ z)).1
      exact e2.trans (e1.symm.trans e)
theorem lawG (KX : K.In t.heap) (hns : t.heap.Ns mainGlobals mg) (hb : t.heap.Ns builtinsNs mb) (hbb : ∀ y : Str, y ≠ "__name__" → mb y = bootBuiltins y) (hlim : t.heap.NoLimit) (hg : t.gens = #[])
    (ha : t.heap.get? a = some { cls := .type "list", data := .seq zs.toArray }) (hi : IntsAre zs ns) (hl : ns.length ≤ sizeLine) (rm : Room k callerA)
    (F : ∀ bh : Heap, K.In bh → bh.Ns mainGlobals mg → FnG P w K mg bh k fa fd [x] sp) (bi : ∀ (s : Shared) (u : Value), BindsTo s fd ⟨[u], []⟩ [(x, u)])
    (hsp : ∀ J : Hp, Only J → SqL K J a (ns.map V.int) → sp [.ref a] J (fun v _ => v = .bl true) E0) :
    codeAny (model P w) callerA (.call (.ref fa) ⟨[.ref a], []⟩) (Fin1 t) t := by
  have rv : Vals (ns.map V.int) zs := vals_ints hi
  have ll : zs.length ≤ sizeLine := by rw [← rv.length, List.length_map]; exact hl
  cases hk : K.lookup a with
  | some o =>
    obtain rfl : _ = o := Option.some.inj (ha.symm.trans (KX a o hk))
    have sq : SqL K (fun _ => none) a (ns.map V.int) := Or.inr ⟨_, zs.toArray, _, hk, rfl, rfl, rfl, by simpa using ll, by simpa using rv⟩
    exact coreG KX hns hb hbb hlim hg ha rm F bi (fun _ => Or.inl rfl) (fun _ _ z => nomatch z) (fun _ z => absurd rfl z) (fun z => absurd rfl z) (hsp _ (fun _ => Or.inl rfl) sq)
  | none =>
    let J : Hp := fun b => if b = a then some (.frz { cls := .type "list", data := .seq zs.toArray } (.lst (ns.map V.int))) else none
    have ja : J a = some (.frz { cls := .type "list", data := .seq zs.toArray } (.lst (ns.map V.int))) := if_pos rfl
    have jn : ∀ b, b ≠ a → J b = none := fun b h => if_neg h
    have ho : Only J := fun b => (Classical.em (b = a)).elim (fun e => Or.inr ⟨_, _, e ▸ ja⟩) fun e => Or.inl (jn b e)
    refine coreG KX hns hb hbb hlim hg ha rm F bi ho (fun b u z => ?_) (fun b z => Classical.byContradiction fun e => z (jn b e)) (fun _ => hk) (hsp J ho (Or.inl (Or.inr ⟨_, ja⟩)))
    by_cases e : b = a
    · subst e
      obtain rfl := Option.some.inj (ja.symm.trans z)
      exact ⟨ha, by rw [List.length_map]; exact hl, zs, _, rv, ha⟩
    · exact absurd ((jn b e).symm.trans z) fun z => nomatch z
end
theorem walkG {l : PySem.W.OpenLaw} {n k : Nat} {q : Program} {lo : List Str} {XP : (Str → Option Value) → Heap → Prop} {YP : World → Heap → Prop} {d : DefRec} {K : Params → PySem.W.Frag} {sp : World → Sp} {x : Str}
    (hn : l.most = some n) (hn2 : n ≤ sizeLine) (hdf : d.params.defaults = []) (rm : Room k callerA) (hY : ∀ (w : World) (h : Heap), YP w h → (K w.params).In h)
    (F : ∀ (w : World) (mg : Str → Option Value) (fa : Addr) (h : Heap), (K w.params).In h → h.Ns mainGlobals mg → mg d.name = some (.ref fa) →
      ∃ fd : FuncData, (∀ (s : Shared) (u : Value), BindsTo s fd ⟨[u], []⟩ [(x, u)]) ∧
        ∀ bh : Heap, (K w.params).In bh → bh.Ns mainGlobals mg → FnG l.prog w (K w.params) mg bh k fa fd [x] (sp w))
    (hsp : ∀ (w : World) (J : Hp) (a : Addr) (ns : List Int), ns.length ≤ n → Only J → SqL (K w.params) J a (ns.map V.int) → sp w [.ref a] J (fun v _ => v = .bl true) E0) :
    PySem.W.WalkO q lo XP YP l.row.toRowW d [] (fun f vs => PySem.call f vs) := by
  refine Att.attach_call hn hdf fun w s₀ t mg mb fa o pm cd doc a zs ns G Y ho hd hcd hmg hobj hints hlen hg => ?_
  obtain ⟨fd, bi, hF⟩ := F w mg fa _ (hY w _ Y) G.T.g hmg
  exact lawG (hY w _ Y) G.T.g G.T.b G.T.builtins G.T.nolimit hg hobj hints (Nat.le_trans hlen hn2) rm hF bi fun J hO hS => hsp w J a ns hlen hO hS
end Spk

namespace Spk
open PySem PySem.Spec PyProof.Rows L2
open AutoSeq1 (wpAny_loadPart')
theorem enumT_new (t : Addr) (its : Array Value) (n : Nat) (dct : Option Addr) (sl : Array (Option Value)) :
    Meets (Builtin.«enumerate.__new__» ⟨[.type "enumerate", .ref t], []⟩) (fun _ R s => s.heap.get? t = some { cls := .type "tuple", dict := dct, data := .seq its n, slots := sl } ∧
      R (.ok (.ret (.ref (s.heap.push { cls := .type "tuple_iterator", data := .fields #[.ref t, .int 0 0] }).objs.size)))
        { s with heap := (s.heap.push { cls := .type "tuple_iterator", data := .fields #[.ref t, .int 0 0] }).push { cls := .type "enumerate", data := .fields #[.none, .bool false, .ref s.heap.objs.size, rawInt 0, .none, .none] } }) :=
  .of_wp fun prog w A R s h => by
    obtain ⟨hp, g, d, tk, os⟩ := s; obtain ⟨ht, h⟩ := h
    have hsub := sub_enumerate
    have hT : Heap.IsTuple (Shared.heap ⟨hp, g, d, tk, os⟩) t its := ⟨_, ht, rfl, n, rfl⟩
    wp_walk using wpAny_loadPart' ht
    refine wpAny_stack_any fun st => wpAny_pure ?_
    split
    · rename_i c _ _ _ _ _
      cases (c == Value.type "enumerate") <;> (wp_walk using wpAny_loadPart' ht, wpAny_pyIter_tuple hT; exact ⟨_, rfl, h⟩)
    · wp_walk using wpAny_loadPart' ht, wpAny_pyIter_tuple hT
      exact ⟨_, rfl, h⟩
theorem mem2 {α : Type} {b x y : α} (h : b ∈ [x, y]) : b = x ∨ b = y := by simpa using h
section
variable {prog : Program} {w : World} {A : Around} {E : Value → Shared → Prop} {s : Shared}
theorem enumT_call {t : Addr} {its : Array Value} {Q : Value → Shared → Prop} (hT : s.heap.IsTuple t its)
    (h : ∀ g, IsEnum g (s.heap.objs.size + 1) s.heap.objs.size 0 .none → g.IsTupleIter s.heap.objs.size t 0 → g.objs.size = s.heap.objs.size + 2 →
      (∀ b o, s.heap.get? b = some o → g.get? b = some o) → Q (.ref (s.heap.objs.size + 1)) { s with heap := g }) :
    wpAny (model prog w) A (call (.type "enumerate") [.ref t]) Q E s := by
  obtain ⟨⟨c, dct, dt, sl⟩, ht, hc, n, hd⟩ := hT
  obtain rfl : c = .type "tuple" := hc
  obtain rfl : dt = .seq its n := hd
  refine callType_new F.called_enumerate (by decide) (F.typeCall_enumerate_1 _) (F.newCall_enumerate_1 _) (fun ob => F.args_object_init_2 ob _) F.entry_enumerate_new (enumT_new t its n dct sl) ⟨ht, ?_⟩
  have hz : (s.heap.push { cls := .type "tuple_iterator", data := .fields #[.ref t, .int 0 0] }).objs.size = s.heap.objs.size + 1 := Heap.size_push ..
  show _ ∧ _
  rw [hz]
  have he : IsEnum ((s.heap.push { cls := .type "tuple_iterator", data := .fields #[.ref t, .int 0 0] }).push
      { cls := .type "enumerate", data := .fields #[.none, .bool false, .ref s.heap.objs.size, rawInt 0, .none, .none] }) (s.heap.objs.size + 1) s.heap.objs.size 0 .none := by
    have q := Heap.get?_push_size (s.heap.push { cls := .type "tuple_iterator", data := .fields #[.ref t, .int 0 0] })
      (o := { cls := .type "enumerate", data := .fields #[.none, .bool false, .ref s.heap.objs.size, rawInt 0, .none, .none] }) rfl
    rw [hz] at q; exact q
  exact ⟨⟨_, he, rfl⟩, h _ he ⟨_, Heap.get?_push_of_some _ (Heap.get?_push_size _ rfl), rfl, rfl⟩ (by rw [Heap.size_push, hz]) fun b o q => Heap.get?_push_of_some _ (Heap.get?_push_of_some _ q)⟩
end
/-- enumerate(tuple): each item in a new pair -/
def ItE (K : PySem.W.Frag) (a : Addr) : It where
  go := fun i H => ∃ (xs : List V) (x : V), SqT K H a xs ∧ xs[i]? = some x
  yld := fun i H v H' => ∃ T x, v = .ref T ∧ H T = none ∧ H' = upd H T (.tup [.int (i : Nat), x]) ∧ ∀ xs, SqT K H a xs → xs[i]? = some x
  stop := fun i H => ∃ xs : List V, SqT K H a xs ∧ xs.length ≤ i
theorem turnE {P : Program} {w : World} {K : PySem.W.Frag} {elts : List Expr} {kk : Nat} {tpos : Pos} (a e it : Addr) (hai : a ≠ it) (hae : e ≠ a) :
    Turn P w K (.Tuple elts kk tpos) (ItE K a) [e, it] e (fun i h => (∃ old, IsEnum h e it ((i : Nat) : Int) old) ∧ h.IsTupleIter it a i ∧ e ≠ it) where
  mem := List.mem_cons_self
  obj := by
    rintro i h ⟨⟨old, he⟩, ⟨o, ho, hc, hd⟩, _⟩ b hb
    rcases mem2 hb with rfl | rfl
    · exact ⟨_, he, fun v q => nomatch q⟩
    · exact ⟨o, ho, fun v q => by rw [hd] at q; cases q⟩
  keep := by
    rintro i h h' ⟨⟨old, he⟩, hi, hne⟩ k
    exact ⟨⟨old, k e (by simp) _ he⟩, hi.at fun o q => k it (by simp) o q, hne⟩
  item := by
    intro X hP hw hK hc i pins s σ H E I hf st hg
    subst hP hw hK
    obtain ⟨⟨old, he⟩, hit, hne⟩ := st
    obtain ⟨xs, x, hq, hx⟩ := hg
    obtain ⟨its, rv, p, hz⟩ := I.tuple hq
    obtain ⟨u, hu, ru⟩ := rv.get hx
    have hu' : its.toArray[i]? = some u := by simpa using hu
    have hlt : i < its.toArray.size := by
      obtain ⟨h1, _⟩ := Array.getElem?_eq_some_iff.mp hu'
      exact h1
    have hT : s.heap.IsTuple a its.toArray := p
    have hel : e < s.heap.objs.size := Heap.lt_size he
    have hil : it < s.heap.objs.size := by obtain ⟨_, q, _⟩ := hit; exact Heap.lt_size q
    have D := Draws.tuple (prog := X.prog) (w := X.w) (A := X.A.in1) (I.ok.hd hc) it a hai its.toArray
    refine wpAny_pyNext_enum_itemD D he ⟨hit, hT⟩ hlt hne (fun hm => ?_) fun y g tk hy ho hst hTp hsz hk => ?_
    · rcases mem2 hm with z | z
      · exact hne z
      · exact hae z
    · obtain rfl : u = y := Option.some.inj (hu'.symm.trans hy)
      refine ⟨_, rfl, wpAny_letOwnedTupleGo_enum (s := { s with heap := g, toks := tk + 1 }) ho fun g2 he2 sb => ?_⟩
      have hT2 : g2.get? s.heap.objs.size = some { cls := .type "tuple", data := .seq #[.int i tk, u] } := (sb.2 _ (Nat.ne_of_gt hel)).trans hTp
      have new : ObjOk X.prog X.w (upd H s.heap.objs.size (.tup [.int (i : Nat), x])) g2 s.heap.objs.size (.tup [.int (i : Nat), x]) :=
        ⟨by show 2 ≤ sizeLine; decide, [.int i tk, u], .cons ⟨_, rfl⟩ (.cons ru .nil), ⟨_, hT2, rfl, _, rfl⟩⟩
      have I1 : Inv X pins σ (upd H s.heap.objs.size (.tup [.int (i : Nat), x])) { s with heap := g2, toks := tk + 1 } := by
        refine I.turnedNew (ch := [e, it]) (fun b ob hb q => ?_) hf (Nat.le_refl _) new
        have n1 : b ≠ e := fun z => hb (by simp [z])
        have n2 : b ≠ it := fun z => hb (by simp [z])
        exact (sb.2 b n1).trans (hk b ob n1 n2 q)
      refine ⟨.ref s.heap.objs.size, _, I1, rfl, ⟨_, x, rfl, I.hok.fresh (Nat.le_refl _), rfl, fun ys hy => by rw [I.tuple_inj hy hq]; exact hx⟩, ⟨⟨u, ?_⟩, hst.1.at fun o q => (sb.2 it (Ne.symm hne)).trans q, hne⟩, fun b hb => ?_⟩
      · have e1 : ((i + 1 : Nat) : Int) = (i : Int) + 1 := by omega
        rw [e1]; exact he2
      · have hlb : b < s.heap.objs.size := by rcases mem2 hb with rfl | rfl <;> assumption
        exact (upd_ne (Nat.ne_of_lt hlb)).trans (hf b hb).1
  done := by
    intro X hP hw hK hc i pins s σ H E I hf st hg
    subst hP hw hK
    obtain ⟨⟨old, he⟩, hit, hne⟩ := st
    obtain ⟨xs, hq, hx⟩ := hg
    obtain ⟨its, rv, p, hz⟩ := I.tuple hq
    obtain ⟨f0, f1, f2, f3, f4, f5⟩ := hf it (by simp)
    have hT : s.heap.IsTuple a its.toArray := p
    have hl := rv.length
    have hT2 : its.toArray[i]? = none := by simp; omega
    refine (show wpAny (model X.prog X.w) X.A (pyNext (.ref e)) _ E s from ?_)
    have hTy : s.TypeIs (.ref e) "enumerate" := ⟨_, he, rfl⟩
    unfold pyNext
    refine wpAny_bind (wpAny_attempt (wpAny_callSpecial?_slot (name := Str.ofString "__next__") hTy F.slot_enumerate_next
      (wpAny_call_entry F.slot_enumerate_next hTy F.entry_enumerate_next ?_ (F.args_enumerate_next_1 _))))
    show wpAny _ _ (field (.ref e) 2 >>= _) _ _ _
    refine wpAny_bind (wpAny_field he rfl (x := .ref it) rfl ?_)
    refine wpAny_bind (wpAny_nextOf_tuple_end (I.ok.hd hc) hit hT hT2 fun g x eb hx' => ?_)
    obtain ⟨o, ho, hcl⟩ := hx'
    refine wpAny_bind (wpAny_isInstance (T := "StopIteration") (b := true) ⟨o, ho, hcl⟩ isSubtype_stop ?_)
    exact wpAny_pure ⟨rfl, I.turned (t' := s.toks) (fun b o hb q => eb b o hb q) f0 f1 f3 f4 f5⟩
  self := by
    rintro A i s Q E ⟨⟨_, he⟩, _⟩ h
    exact wpAny_pyIter_enum he h
theorem walkE {K : PySem.W.Frag} {a : Addr} {xs : List V} : Walk (ItE K a) xs.length (fun H => SqT K H a xs) (YPair (fun i => some (.int (i : Nat))) (fun i => xs[i]?)) where
  goes := fun i _ hi q => ⟨xs, xs[i], q, by simp [hi]⟩
  stops := fun _ q => ⟨xs, q, Nat.le_refl _⟩
  yields := by
    rintro i H v H' _ q ⟨T, x, h1, h2, h3, h4⟩
    exact ⟨T, .int (i : Nat), x, h1, h2, h3, rfl, h4 xs q⟩
/-- a list or a tuple -/
def Sq (K : PySem.W.Frag) (H : Hp) (a : Addr) (xs : List V) : Prop := SqL K H a xs ∨ SqT K H a xs
/-- what was read at a is still to be read there -/
def SqK (K : PySem.W.Frag) (H H' : Hp) (a : Addr) (xs : List V) : Prop := (SqL K H a xs → SqL K H' a xs) ∧ (SqT K H a xs → SqT K H' a xs)
/-- enumerate(x), x a list or a tuple -/
def iEn (K : PySem.W.Frag) (ta : TA) : TI := fun σ H R => ta σ H fun vs H1 => ∃ a xs, vs = [.ref a] ∧ Sq K H1 a xs ∧
  ∀ J, Walk J xs.length (fun H => SqK K H1 H a xs) (YPair (fun i => some (.int (i : Nat))) (fun i => xs[i]?)) → R J H1
/-- x, a list or a tuple -/
def iSq (K : PySem.W.Frag) (tl : TE) : TI := fun σ H R => tl σ H fun x H1 => ∃ a xs, x = .ref a ∧ Sq K H1 a xs ∧
  ∀ J, Walk J xs.length (fun H => SqK K H1 H a xs) (YAt xs) → R J H1
section
variable {X : Cx}
theorem pi_en {e : Expr} {ta : TA} {p pos tpos : Pos} {elts : List Expr} {kk : Nat} (hg : Gl X "enumerate") (hm : X.mg "enumerate" = none) (ha : PA X [e] ta) (hs : starEach [e] X.env = [(false, eval e X.env)] := by rfl) :
    PI X (.Tuple elts kk tpos) (.Call (.Name "enumerate" p) [e] [] pos) (iEn X.K ta) := by
  refine ⟨fun pins s σ H R I h => Call_ (ld_blt I hg hm boot_enumerate (PyProof.Rows.callWith_type1 (thn (ha.run pos pins s σ H _ I h) fun us s1 hh => ?_) hs rfl))⟩
  obtain ⟨vs, H1, I1, r1, a, xs, rfl, hq, q⟩ := hh
  obtain ⟨u, rfl, ru⟩ := vals1 r1
  obtain rfl : u = Value.ref a := ru
  have fp : ∀ b ∈ [s1.heap.objs.size + 1, s1.heap.objs.size], FpOk X pins H1 b := fun b hb => by
    have hle : s1.heap.objs.size ≤ b := by rcases mem2 hb with rfl | rfl <;> omega
    exact I1.fpOk hle (I1.hok.fresh hle)
  rcases hq with hq | hq
  · obtain ⟨its, rv, p', hz⟩ := I1.list hq
    refine call_enumerate_list p'.isList fun g he hit hsz hk => wpAny_pyIter_enum he ?_
    exact ⟨s1.heap.objs.size + 1, [s1.heap.objs.size + 1, s1.heap.objs.size], _, _, H1, rfl, I1.kept (t' := s1.toks) hk, turn_enum a _ _, ⟨⟨.none, he⟩, hit, Nat.succ_ne_self _⟩, fp, q _ (walk_enum.mono (fun _ z => z.1 hq) fun _ _ _ _ _ _ y => y)⟩
  · obtain ⟨its, rv, p', hz⟩ := I1.tuple hq
    have hT : s1.heap.IsTuple a its.toArray := p'
    have hlt : a < s1.heap.objs.size := by obtain ⟨_, z, _⟩ := hT; exact Heap.lt_size z
    refine enumT_call hT fun g he hit hsz hk => wpAny_pyIter_enum he ?_
    exact ⟨s1.heap.objs.size + 1, [s1.heap.objs.size + 1, s1.heap.objs.size], _, _, H1, rfl, I1.kept (t' := s1.toks) hk, turnE a _ _ (Nat.ne_of_lt hlt) (Nat.ne_of_gt (Nat.lt_succ_of_lt hlt)), ⟨⟨.none, he⟩, hit, Nat.succ_ne_self _⟩, fp, q _ (walkE.mono (fun _ z => z.2 hq) fun _ _ _ _ _ _ y => y)⟩
theorem pi_sq {tg l : Expr} {tl : TE} (hl : PE X l tl) : PI X tg l (iSq X.K tl) := by
  refine ⟨fun pins s σ H R I h => thn (hl.run pins s σ H _ I h) fun v s1 hh => ?_⟩
  obtain ⟨x, H1, I1, r1, a, xs, rfl, hq, q⟩ := hh
  obtain rfl : v = Value.ref a := r1
  have fp : ∀ b ∈ [s1.heap.objs.size], FpOk X pins H1 b := fun b hb => by
    obtain rfl : b = s1.heap.objs.size := by simpa using hb
    exact I1.fpOk (Nat.le_refl _) (I1.hok.fresh (Nat.le_refl _))
  rcases hq with hq | hq
  · obtain ⟨its, rv, p, hz⟩ := I1.list hq
    exact wpAny_pyIter_list p.isList ⟨s1.heap.objs.size, [s1.heap.objs.size], _, _, H1, rfl, I1.kept (t' := s1.toks) fun _ _ z => Heap.get?_push_of_some _ z, turn_list a _, ⟨_, Heap.get?_push_size _ rfl, rfl, rfl⟩, fp, q _ (walk_list.mono (fun _ z => z.1 hq) fun _ _ _ _ _ _ y => y)⟩
  · obtain ⟨its, rv, p, hz⟩ := I1.tuple hq
    have hT : s1.heap.IsTuple a its.toArray := p
    exact wpAny_pyIter_tuple hT ⟨s1.heap.objs.size, [s1.heap.objs.size], _, _, H1, rfl, I1.kept (t' := s1.toks) fun _ _ z => Heap.get?_push_of_some _ z, turn_tuple a _, ⟨_, Heap.get?_push_size _ rfl, rfl, rfl⟩, fp, q _ (walk_tup.mono (fun _ z => z.2 hq) fun _ _ _ _ _ _ y => y)⟩
end
end Spk

namespace Spk
open PySem PySem.Spec PyProof.Rows L2
/-! ### a def that may be called -/
structure Rdy (P : Program) (w : World) (K : PySem.W.Frag) (mg : Str → Option Value) (bh : Heap) (x : Str) (k : Nat) (ps : List Str) (sp : Sp) (f : Addr) (fd : FuncData) : Prop where
  ok : FnOk P w K mg bh CX0 k f fd ps sp
  gl : mg x = some (.ref f)
  kp : PySem.W.keepIn K (.ref f) = true
  bd : Binds K fd ps []
/-- a def with defaults -/
structure RdyD (P : Program) (w : World) (K : PySem.W.Frag) (mg : Str → Option Value) (bh : Heap) (x : Str) (k : Nat) (ps : List Str) (dvs : List V) (sp : Sp) (f : Addr) (fd : FuncData) : Prop where
  ok : FnOk P w K mg bh CX0 k f fd ps sp
  gl : mg x = some (.ref f)
  kp : PySem.W.keepIn K (.ref f) = true
  bd : Binds K fd ps []
  bd1 : ∃ ds, Vals dvs ds ∧ Binds K fd ps ds
section
variable {X : Cx} {x : Str} {k j : Nat} {ps : List Str} {dvs : List V} {sp : Sp} {f : Addr} {fd : FuncData} {p pos : Pos} {e : Expr} {es : List Expr} {t : TA}
theorem pe_rdy (R : Rdy X.prog X.w X.K X.mg X.base x k ps sp f fd) (rm : Room j X.A) (hj : k ≤ j) (hg : Gl X x) (ha : PA X (e :: es) t) (hdb : (x == ("__debug__" : Str)) = false := by decide)
    (he : starEach (e :: es) X.env = (false, eval e X.env) :: starEach es X.env := by rfl) (hpl : (backTo pos (starEach es X.env)).any (·.1) = false := by rfl) :
    PE X (.Call (.Name x p) (e :: es) [] pos) (tCall sp [] E0 t) := pe_call R.ok (rm.mono hj) hg R.gl R.kp R.bd .nil pass0 ha hdb he hpl
theorem pe_rdyD (R : RdyD X.prog X.w X.K X.mg X.base x k ps dvs sp f fd) (rm : Room j X.A) (hj : k ≤ j) (hg : Gl X x) (ha : PA X (e :: es) t) (hdb : (x == ("__debug__" : Str)) = false := by decide)
    (he : starEach (e :: es) X.env = (false, eval e X.env) :: starEach es X.env := by rfl) (hpl : (backTo pos (starEach es X.env)).any (·.1) = false := by rfl) :
    PE X (.Call (.Name x p) (e :: es) [] pos) (tCall sp [] E0 t) := pe_call R.ok (rm.mono hj) hg R.gl R.kp R.bd .nil pass0 ha hdb he hpl
/-- the last argument left out -/
theorem pe_rdyD1 (R : RdyD X.prog X.w X.K X.mg X.base x k ps dvs sp f fd) (rm : Room j X.A) (hj : k ≤ j) (hg : Gl X x) (ha : PA X (e :: es) t) (hdb : (x == ("__debug__" : Str)) = false := by decide)
    (he : starEach (e :: es) X.env = (false, eval e X.env) :: starEach es X.env := by rfl) (hpl : (backTo pos (starEach es X.env)).any (·.1) = false := by rfl) :
    PE X (.Call (.Name x p) (e :: es) [] pos) (tCall sp dvs E0 t) := by
  obtain ⟨ds, hv, bd⟩ := R.bd1
  exact pe_call R.ok (rm.mono hj) hg R.gl R.kp bd hv pass0 ha hdb he hpl
/-! ### a word between a statement and what follows -/
def tMid (t u : TS) : TS := fun D σ H => ∃ M : L2.St → Hp → Prop, t { D with nx := M } σ H ∧ ∀ τ J, M τ J → u D τ J
theorem pss_mid {st : Stmt} {sts : List Stmt} {t u : TS} (a : PS X st t) (b : PSs X sts u) : PSs X (st :: sts) (tMid t u) := by
  refine ⟨fun pins s σ H D I h => h.elim fun M h => ?_⟩
  refine wpAny_execs_cons (thn (a.run pins s σ H { D with nx := M } I h.1) fun fl s1 q => ?_)
  match fl, q with
  | .next, q =>
    obtain ⟨τ, J, I', q⟩ := q
    exact b.run pins s1 τ J D I' (h.2 τ J q)
  | .ret _, q => exact q
  | .brk, q => exact q
  | .cont, q => exact q
/-- an item of a tuple, the written part named -/
theorem ix_tupK {K : PySem.W.Frag} (h : X.K = K := by rfl) : IxR X (rIxT K) := h ▸ ix_tup
theorem ix_listK {K : PySem.W.Frag} (h : X.K = K := by rfl) : IxR X (rIxL K) := h ▸ ix_list
/-! ### constants of the module, of a class -/
theorem pe_globI {i : Int} (h : ∃ t, X.mg x = some (.int i t)) (hg : Gl X x) (hd : (x == ("__debug__" : Str)) = false := by decide) : PE X (.Name x pos) (tC (.int i)) := by
  obtain ⟨t, h⟩ := h
  exact pe_glob hg h ⟨t, rfl⟩ hd
/-- the class Ends, as the top has left it -/
structure EndsT (K : PySem.W.Frag) (mg : Str → Option Value) : Prop where
  ex : ∃ (C : Addr) (mc u1 u2 : Value), mg "Ends" = some (.ref C) ∧ ClX.CRead K C mc ∧ ClX.CVal K C mc "HALF" (.str "half") u1 ∧ ClX.CVal K C mc "SHUT" (.str "shut") u2
theorem pe_half (h : EndsT X.K X.mg) (hg : Gl X "Ends") (hb : attributeBase (.Name "Ends" p) "HALF" X.env (eval (.Name "Ends" p) X.env) = eval (.Name "Ends" p) X.env := by rfl) :
    PE X (.Attribute (.Name "Ends" p) "HALF" pos) (tC (.str "half")) := by
  obtain ⟨C, mc, u1, u2, g, r, a, b⟩ := h.ex
  have q := ClX.pe_cval (X := X) (f := "HALF") (pos := pos) (pe_glob (v := .ref C) (pos := p) hg g rfl) hb
  exact ⟨fun pins s σ H R I z => q.run pins s σ H R I ⟨C, mc, _, u1, rfl, r, a, z⟩⟩
theorem pe_shut (h : EndsT X.K X.mg) (hg : Gl X "Ends") (hb : attributeBase (.Name "Ends" p) "SHUT" X.env (eval (.Name "Ends" p) X.env) = eval (.Name "Ends" p) X.env := by rfl) :
    PE X (.Attribute (.Name "Ends" p) "SHUT" pos) (tC (.str "shut")) := by
  obtain ⟨C, mc, u1, u2, g, r, a, b⟩ := h.ex
  have q := ClX.pe_cval (X := X) (f := "SHUT") (pos := pos) (pe_glob (v := .ref C) (pos := p) hg g rfl) hb
  exact ⟨fun pins s σ H R I z => q.run pins s σ H R I ⟨C, mc, _, u2, rfl, r, b, z⟩⟩
end

/-! ### defs with defaults, calls by keywords alone -/
section
variable {P : Program} {w : World} {K : PySem.W.Frag} {mg : Str → Option Value} {bh : Heap} {x qu : Str} {st : Stmt} {dvs : List V} {f : Addr} {fd : FuncData} {N ps : List Str} {k : Nat} {sp : Sp}
theorem okD (F : FunD K x qu (defArgs st) (defBody st) (defScope st) dvs [] f fd) (S : FnScope N ps (defScope st)) (ln : ∀ vs H Q E, sp vs H Q E → vs.length = ps.length)
    (hb : ∀ (cv : Value) (B : Around) (ou : List Env) (t : Shared) (J : Hp) (ws : List V) (R : VK) (U : XK), Room k (B.deeper (envOfC qu (defScope st) t.heap.objs.size f cv)) → sp ws J R U →
      ∃ tr, PSs (cxOf CX0 P w K mg bh N qu (defScope st) f cv B ou t J U).nox (defBody st) tr ∧ tr { nx := fun _ J' => R .non J', rt := R } (L2.start N ws) J) :
    FnOk P w K mg bh CX0 (k + 1) f fd ps sp := F.ok S ln fun cv B ou t J ws R U rm h => by
  obtain ⟨tr, q, z⟩ := hb cv B ou t J ws R U rm h
  exact ⟨tr, q.nox, z⟩
theorem bindsFull (F : FunD K x qu (defArgs st) (defBody st) (defScope st) dvs [] f fd) (hd : dvs ≠ [])
    (h : ∀ (T : Addr) (kV dc pm : Value) (an : Option Addr) (cv ct : Value) (us its : List Value), us.length = ps.length → its.length = dvs.length →
      ∃ kk, bindArgs (PySem.W.fnOf x qu (defArgs st) (defBody st) (defScope st) (.ref T) kV dc pm an cv ct) ⟨us, []⟩ = seqItems? (.ref T) >>= kk ∧ kk (some its.toArray) = pure (ps.zip us)) : Binds K fd ps [] := by
  obtain ⟨ds, hv, bd⟩ := FunD.binds1 (ps := ps) F ps.length dvs.length hd (by omega) fun T kV dc pm an cv ct us its h1 h2 => by
    obtain ⟨kk, e1, e2⟩ := h T kV dc pm an cv ct us its h1 h2
    have : its.drop dvs.length = [] := List.drop_eq_nil_of_le (by omega)
    rw [this, List.append_nil]
    exact ⟨kk, e1, e2⟩
  have e : dvs.drop dvs.length = [] := List.drop_eq_nil_of_le (Nat.le_refl _)
  rw [e] at hv
  cases hv
  exact bd
theorem kwAll (F : FunD K x qu (defArgs st) (defBody st) (defScope st) dvs [] f fd) (ks : List Str) (g : {α : Type} → List α → List α) (hd : dvs ≠ []) (hrel : ∀ {zs : List V} {ws : List Value}, Vals zs ws → Vals (g zs) (g ws))
    (h : ∀ (T : Addr) (kV dc pm : Value) (an : Option Addr) (cv ct : Value) (its ws : List Value), its.length = dvs.length → ws.length = ks.length →
      ∃ kk, bindArgs (PySem.W.fnOf x qu (defArgs st) (defBody st) (defScope st) (.ref T) kV dc pm an cv ct) ⟨[], ks.zip ws⟩ = seqItems? (.ref T) >>= kk ∧ kk (some its.toArray) = pure (ps.zip (g ws))) :
    KBn K fd ps 0 ks (fun _ ws => g ws) (fun _ zs => g zs) := by
  obtain ⟨oc, od, dV, kV, dc, pm, an, cv, ct, sl, rfl, lk, hcd, hD, hK⟩ := F.ex
  rcases hD with ⟨e, _⟩ | ⟨_, T, o, its, m, rfl, lT, oT, rT⟩
  · exact absurd e hd
  · refine ⟨fun s us ws X l1 l2 => ?_, fun _ r2 => hrel r2⟩
    obtain rfl : us = [] := List.length_eq_zero_iff.mp l1
    obtain ⟨kk, e1, e2⟩ := h T kV dc pm an cv ct its ws rT.length.symm l2
    refine BindsTo.of_looks fun M => ?_
    rw [e1]
    exact looks_items X lT oT (.of_pure e2)
end
section
variable {X : Cx} {k j : Nat} {f : Addr} {fd : FuncData} {ps ks : List Str} {sp : Sp} {x : Str} {p pos : Pos} {kws : List Keyword} {tk : TA} {g : List Value → List Value → List Value} {gV : List V → List V → List V}
/-- f(k = v, ..) without a positional argument -/
theorem pe_kw0 (F : FnOk X.prog X.w X.K X.mg X.base CX0 k f fd ps sp) (rm : Room j X.A) (hj : k ≤ j) (hg : Gl X x) (hm : X.mg x = some (.ref f)) (hk : PySem.W.keepIn X.K (.ref f) = true) (hb : KBn X.K fd ps 0 ks g gV) (hkw : PK X kws tk)
    (hall : (backToKw pos (keywordEach kws X.env)).all (·.1.isSome) = true := by rfl) (hks : (backToKw pos (keywordEach kws X.env)).filterMap (·.1) = ks := by rfl) (hdb : (x == ("__debug__" : Str)) = false := by decide)
    (hpl : ((backTo pos (starEach [] X.env)).any (·.1) || (backToKw pos (keywordEach kws X.env)).any (·.1.isNone)) = false := by rfl) :
    PE X (.Call (.Name x p) [] kws pos) (tCallN 0 ks.length sp gV E0 tNil tk) := by
  refine ⟨fun pins s σ H Q I h => wpAny_Call_Name_kw (ld_glob I hg hm ?_ hdb)⟩
  refine PySem.W.callWith_KW0 (h₀ := X.base) I.ok.mod.kin hk hall (thn (hkw.run pos pins s σ H _ I h) fun ws s2 hh => ?_) hpl
  obtain ⟨zs, H2, I2, rz, l1, l2, q2⟩ := hh
  refine ⟨I2.kIn, ?_⟩
  rw [hks]
  exact run_fnN (us := []) (vs := []) F (rm.mono hj) hb pass0 I2 .nil rz rfl l2 q2
end
/-! ### heaps -/
theorem SqL.hp {K : PySem.W.Frag} {H : Hp} {a : Addr} {xs : List V} (h : H a = some (.lst xs)) : SqL K H a xs := .inl (.inl h)
theorem SqT.hp {K : PySem.W.Frag} {H : Hp} {a : Addr} {xs : List V} (h : H a = some (.tup xs)) : SqT K H a xs := .inl (.inl h)
/-- all that was tracked, but for what stands at p, is as it was -/
def Kp (p : Addr) (H H' : Hp) : Prop := ∀ b o, b ≠ p → H b = some o → H' b = some o
theorem Kp.refl {p : Addr} {H : Hp} : Kp p H H := fun _ _ _ h => h
theorem Kp.trans {p : Addr} {H H1 H2 : Hp} (a : Kp p H H1) (b : Kp p H1 H2) : Kp p H H2 := fun c o n h => b c o n (a c o n h)
theorem Kp.same {p : Addr} {H H' : Hp} (a : Same H H') : Kp p H H' := fun c o _ h => a c o h
theorem Kp.new {p q : Addr} {H : Hp} {o : HO} (h : H q = none) : Kp p H (upd H q o) := fun b u _ e => by rw [upd_ne (ne_of_none e h)]; exact e
theorem Kp.at_ {p : Addr} {H : Hp} {o : HO} : Kp p H (upd H p o) := fun b u n e => by rw [upd_ne n]; exact e
theorem Same.new {q : Addr} {H : Hp} {o : HO} (h : H q = none) : Same H (upd H q o) := fun b u e => by rw [upd_ne (ne_of_none e h)]; exact e
theorem Same.free' {H H' : Hp} (s : Same H H') {l : Addr} (h : H' l = none) : H l = none := Same.free s h
theorem sameT {K : PySem.W.Frag} {H H' : Hp} {a : Addr} {xs : List V} (e : Same H H') (h : SqT K H a xs) : SqT K H' a xs := by
  rcases h with (h | ⟨o, h⟩) | h
  · exact .inl (.inl (e _ _ h))
  · exact .inl (.inr ⟨o, e _ _ h⟩)
  · exact .inr h
theorem sameK {K : PySem.W.Frag} {H H' : Hp} {a : Addr} {xs : List V} (e : Same H H') : SqK K H H' a xs := ⟨e.seq, sameT e⟩
theorem sameQ {K : PySem.W.Frag} {H H' : Hp} {a : Addr} {xs : List V} (e : Same H H') (h : Sq K H a xs) : Sq K H' a xs := h.imp e.seq (sameT e)
theorem kpL {K : PySem.W.Frag} {p : Addr} {H H' : Hp} {a : Addr} {xs : List V} (e : Kp p H H') (n : a ≠ p) (h : SqL K H a xs) : SqL K H' a xs := by
  rcases h with (h | ⟨o, h⟩) | h
  · exact .inl (.inl (e _ _ n h))
  · exact .inl (.inr ⟨o, e _ _ n h⟩)
  · exact .inr h
mutual
theorem sameD {K : PySem.W.Frag} {H H' : Hp} (e : Same H H') : ∀ (d : PyData) {v : V}, Dp K H v d → Dp K H' v d
  | .none, _, h => by cases h; exact .non
  | .bool b, _, h => by cases h; exact .bl b
  | .int i, _, h => by cases h; exact .int i
  | .str x, _, h => by cases h; exact .str x
  | .list ds, _, h => by
    cases h with
    | lst q r => exact .lst (e.seq q) (sameDs e ds r)
  | .tuple ds, _, h => by
    cases h with
    | tup q r => exact .tup (sameT e q) (sameDs e ds r)
  | .dict _, _, h => by cases h
theorem sameDs {K : PySem.W.Frag} {H H' : Hp} (e : Same H H') : ∀ (ds : List PyData) {vs : List V}, DpAll K H vs ds → DpAll K H' vs ds
  | [], _, h => by cases h; exact .nil
  | d :: ds, _, h => by
    cases h with
    | cons a b => exact .cons (sameD e d a) (sameDs e ds b)
end
end Spk

namespace Spk
open PySem PySem.Spec PyProof.Rows L2
/-! ### any objects, as data -/
def isNum : PyData → Bool
  | .int _ => true
  | _ => false
def intish : PyData → Bool
  | .int _ => true
  | .bool _ => true
  | _ => false
def boolish : PyData → Bool
  | .bool _ => true
  | _ => false
def tupish : PyData → Bool
  | .tuple _ => true
  | _ => false
def tyN : PyData → String
  | .none => "NoneType"
  | .bool _ => "bool"
  | .int _ => "int"
  | .str _ => "str"
  | .list _ => "list"
  | .tuple _ => "tuple"
  | .dict _ => "dict"
def edgeI (i : Int) : Bool := (decide (-1000000000000000000000000000000 ≤ i) && decide (i ≤ 1000000000000000000000000000000)) || (decide (i = -10000000000000000000000000000000) || decide (i = 10000000000000000000000000000000))
def isEdge : PyData → Bool
  | .int i => edgeI i
  | _ => false
def isPair : PyData → Bool
  | .tuple [a, b] => isEdge a && isEdge b
  | _ => false
def strP (p : Pr) : Bool := edgeI p.1 && edgeI p.2 && (decide (p.1 ≤ p.2) && (decide (p.1 < 10000000000000000000000000000000) && decide (-10000000000000000000000000000000 < p.2)))
/-- the data of a pair -/
def prD (p : Pr) : PyData := .tuple [.int p.1, .int p.2]
def isStr : PyData → Bool
  | .tuple [.int a, .int b] => strP (a, b)
  | _ => false
section
variable {K : PySem.W.Frag} {H : Hp} {v : V} {d : PyData}
theorem dpTy (h : Dp K H v d) : TyX K H v (.type (tyN d)) := by
  cases h with
  | non => exact .base .non
  | bl b => exact .base (.bl b)
  | int i => exact .base (.int i)
  | str x => exact .base (.str x)
  | lst q r =>
    rcases q with (q | ⟨o, q⟩) | ⟨o, its, n, q, c, _⟩
    · exact .base (.lst q)
    · exact .base (.frz q)
    · exact .kList q c
  | tup q r =>
    rcases q with (q | ⟨o, q⟩) | ⟨o, its, n, q, c, _⟩
    · exact .base (.tup q)
    · exact .fTuple q
    · exact .kTuple q c
theorem kitInt (d : PyData) : kitB (tyN d) "int" = some (intish d) := by cases d <;> simp only [tyN, intish] <;> decide +kernel
theorem kitBool (d : PyData) : kitB (tyN d) "bool" = some (boolish d) := by cases d <;> simp only [tyN, boolish] <;> decide +kernel
theorem kitTup (d : PyData) : kitB (tyN d) "tuple" = some (tupish d) := by cases d <;> simp only [tyN, tupish] <;> decide +kernel
theorem isNum_eq (d : PyData) : isNum d = (intish d && !boolish d) := by cases d <;> rfl
end
theorem inV2 (i a b : Int) : inV (.int i) [.int a, .int b] = (decide (i = a) || decide (i = b)) := by
  have e : ∀ a : Int, eqV (.int a) (.int i) = decide (i = a) := fun a => by
    show (a == i) = decide (i = a)
    by_cases h : i = a
    · rw [h, decide_eq_true rfl]; exact beq_self_eq_true a
    · rw [decide_eq_false h]; exact beq_eq_false_iff_ne.mpr (Ne.symm h)
  show (eqV (.int a) (.int i) || (eqV (.int b) (.int i) || false)) = _
  rw [e, e, Bool.or_false]
theorem dpAll_len {K : PySem.W.Frag} {H : Hp} : ∀ {vs : List V} {ds : List PyData}, DpAll K H vs ds → vs.length = ds.length
  | _, _, .nil => rfl
  | _, _, .cons _ t => congrArg Nat.succ (dpAll_len t)
theorem tup_of {K : PySem.W.Frag} {H : Hp} {v : V} {d : PyData} (h : Dp K H v d) (c : tupish d = true) : ∃ a xs ds, v = .ref a ∧ d = .tuple ds ∧ SqT K H a xs ∧ DpAll K H xs ds := by
  cases h with
  | tup sq da => exact ⟨_, _, _, rfl, rfl, sq, da⟩
  | _ => cases c
theorem int_of {K : PySem.W.Frag} {H : Hp} {v : V} {d : PyData} (h : Dp K H v d) (c : isNum d = true) : ∃ i, v = .int i ∧ d = .int i := by
  cases h with
  | int i => exact ⟨i, rfl, rfl⟩
  | _ => cases c
theorem dpAll2 {K : PySem.W.Frag} {H : Hp} {xs : List V} {ds : List PyData} (h : DpAll K H xs ds) (l : xs.length = 2) : ∃ x y d1 d2, xs = [x, y] ∧ ds = [d1, d2] ∧ Dp K H x d1 ∧ Dp K H y d2 := by
  cases h with
  | nil => simp at l
  | cons h1 h =>
    cases h with
    | nil => simp at l
    | cons h2 h =>
      cases h with
      | nil => exact ⟨_, _, _, _, rfl, rfl, h1, h2⟩
      | cons _ _ => simp at l
theorem dpPr {K : PySem.W.Frag} {H : Hp} {v : V} {a b : Int} (h : Dp K H v (.tuple [.int a, .int b])) : ∃ p, v = .ref p ∧ SqT K H p [.int a, .int b] := by
  cases h with
  | tup sq da =>
    cases da with
    | cons h1 h =>
      cases h with
      | cons h2 h =>
        cases h; cases h1; cases h2
        exact ⟨_, rfl, sq⟩
theorem isPair_len {ds : List PyData} (h : ds.length ≠ 2) : isPair (.tuple ds) = false := by
  unfold isPair
  split
  · rename_i e
    cases e
    exact absurd rfl h
  · rfl
theorem isPair_not {d : PyData} (h : ¬ tupish d = true) : isPair d = false := by
  cases d with
  | tuple _ => exact absurd rfl h
  | _ => rfl
theorem isEdge_not {d : PyData} (h : ¬ isNum d = true) : isEdge d = false := by
  cases d with
  | int _ => exact absurd rfl h
  | _ => rfl
theorem edge_of {d : PyData} (h : isEdge d = true) : ∃ a, d = .int a ∧ edgeI a = true := by
  unfold isEdge at h
  split at h
  · exact ⟨_, rfl, h⟩
  · cases h
theorem pair_of {d : PyData} (h : isPair d = true) : ∃ a b, d = .tuple [.int a, .int b] ∧ edgeI a = true ∧ edgeI b = true := by
  unfold isPair at h
  split at h
  · rw [Bool.and_eq_true] at h
    obtain ⟨a, rfl, ha⟩ := edge_of h.1
    obtain ⟨b, rfl, hb⟩ := edge_of h.2
    exact ⟨a, b, rfl, ha, hb⟩
  · cases h
theorem isStr_not {d : PyData} (h : ¬ isPair d = true) : isStr d = false := by
  unfold isStr
  split
  · rename_i a b
    have : (edgeI a && edgeI b) = false := by
      rw [← Bool.not_eq_true]
      exact h
    unfold strP
    rw [this, Bool.false_and]
  · rfl
theorem str_of {d : PyData} (h : isStr d = true) : ∃ a b, d = prD (a, b) ∧ strP (a, b) = true := by
  unfold isStr at h
  split at h
  · exact ⟨_, _, rfl, h⟩
  · cases h
/-- refs to tuples of two ints -/
def Pd (H : Hp) : List Addr → List Pr → Prop
  | [], [] => True
  | t :: ts, p :: ps => H t = some (.tup [.int p.1, .int p.2]) ∧ Pd H ts ps
  | _, _ => False
theorem Pd.len {H : Hp} : ∀ {ts : List Addr} {ps : List Pr}, Pd H ts ps → ts.length = ps.length
  | [], [], _ => rfl
  | t :: ts, p :: ps, h => by simp [Pd.len h.2]
  | [], _ :: _, h => h.elim
  | _ :: _, [], h => h.elim
theorem Pd.same {H H' : Hp} (e : Same H H') : ∀ {ts : List Addr} {ps : List Pr}, Pd H ts ps → Pd H' ts ps
  | [], [], _ => trivial
  | t :: ts, p :: ps, h => ⟨e _ _ h.1, Pd.same e h.2⟩
  | [], _ :: _, h => h.elim
  | _ :: _, [], h => h.elim
/-- what changes is no tuple -/
theorem Pd.kp {q : Addr} {H H' : Hp} (e : Kp q H H') (hq : ∀ xs, H q ≠ some (.tup xs)) : ∀ {ts : List Addr} {ps : List Pr}, Pd H ts ps → Pd H' ts ps
  | [], [], _ => trivial
  | t :: ts, p :: ps, h => ⟨e _ _ (fun z => hq _ (z ▸ h.1)) h.1, Pd.kp e hq h.2⟩
  | [], _ :: _, h => h.elim
  | _ :: _, [], h => h.elim
theorem Pd.get {H : Hp} : ∀ {ts : List Addr} {ps : List Pr}, Pd H ts ps → ∀ {i : Nat} {t : Addr}, ts[i]? = some t → ∃ p, ps[i]? = some p ∧ H t = some (.tup [.int p.1, .int p.2])
  | [], [], _, i, t, h => by simp at h
  | t :: ts, p :: ps, h, 0, t', e => by
    simp at e; subst e
    exact ⟨p, rfl, h.1⟩
  | t :: ts, p :: ps, h, i + 1, t', e => by
    obtain ⟨q, h1, h2⟩ := Pd.get h.2 (i := i) (t := t') (by simpa using e)
    exact ⟨q, by simpa using h1, h2⟩
  | [], _ :: _, h, _, _, _ => h.elim
  | _ :: _, [], h, _, _, _ => h.elim
theorem Pd.app {H : Hp} : ∀ {ts : List Addr} {ps : List Pr} {us : List Addr} {qs : List Pr}, Pd H ts ps → Pd H us qs → Pd H (ts ++ us) (ps ++ qs)
  | [], [], _, _, _, h => h
  | t :: ts, p :: ps, _, _, h, k => ⟨h.1, Pd.app h.2 k⟩
  | [], _ :: _, _, _, h, _ => h.elim
  | _ :: _, [], _, _, h, _ => h.elim
theorem Pd.set {H : Hp} : ∀ {ts : List Addr} {ps : List Pr} (i : Nat) {t : Addr} {p : Pr}, Pd H ts ps → H t = some (.tup [.int p.1, .int p.2]) → Pd H (ts.set i t) (ps.set i p)
  | [], [], _, _, _, h, _ => h
  | t :: ts, p :: ps, 0, _, _, h, k => ⟨k, h.2⟩
  | t :: ts, p :: ps, i + 1, _, _, h, k => ⟨h.1, Pd.set i h.2 k⟩
  | [], _ :: _, _, _, _, h, _ => h.elim
  | _ :: _, [], _, _, _, h, _ => h.elim
theorem Pd.dp {K : PySem.W.Frag} {H : Hp} : ∀ {ts : List Addr} {ps : List Pr}, Pd H ts ps → DpAll K H (ts.map V.ref) (ps.map prD)
  | [], [], _ => .nil
  | t :: ts, p :: ps, h => .cons (.tup (SqT.hp h.1) (.cons (.int _) (.cons (.int _) .nil))) (Pd.dp h.2)
  | [], _ :: _, h => h.elim
  | _ :: _, [], h => h.elim
/-- the draws of a law -/
def BagAt (H : Hp) (p : Addr) (c : Int) : Prop := ∃ b0 b1 b2 b3 : Int, H p = some (.lst [.int b0, .int b1, .int b2, .int b3]) ∧ 0 ≤ b0 ∧ 0 ≤ b1 ∧ b1 < 2305843009213693951 ∧ 0 ≤ b2 ∧ b2 ≤ 1073741824 ∧ 0 ≤ b3 ∧ b3 ≤ c
theorem BagAt.mono {H : Hp} {p : Addr} {c d : Int} (h : BagAt H p c) (e : c ≤ d) : BagAt H p d := by
  obtain ⟨b0, b1, b2, b3, h0, h1, h2, h3, h4, h5, h6, h7⟩ := h
  exact ⟨b0, b1, b2, b3, h0, h1, h2, h3, h4, h5, h6, by omega⟩
theorem BagAt.same {H H' : Hp} {p : Addr} {c : Int} (h : BagAt H p c) (e : Same H H') : BagAt H' p c := by
  obtain ⟨b0, b1, b2, b3, h0, h1⟩ := h
  exact ⟨b0, b1, b2, b3, e _ _ h0, h1⟩
theorem BagAt.lst {H : Hp} {p : Addr} {c : Int} (h : BagAt H p c) : ∃ xs, H p = some (.lst xs) := by
  obtain ⟨b0, b1, b2, b3, h0, h1⟩ := h
  exact ⟨_, h0⟩
/-- all but the bag at p is as it was, what was free too -/
def But (p : Addr) (H H' : Hp) : Prop := ∀ b, b ≠ p → H' b = H b
theorem But.kp {p : Addr} {H H' : Hp} (h : But p H H') : Kp p H H' := fun b o n e => (h b n).trans e
theorem But.trans {p : Addr} {H H1 H2 : Hp} (a : But p H H1) (b : But p H1 H2) : But p H H2 := fun c n => (b c n).trans (a c n)
theorem But.refl {p : Addr} {H : Hp} : But p H H := fun _ _ => rfl
theorem lgDiv {i m : Int} (h0 : 0 < m) (h : m ≤ 1000000000000000000000000000000000000000000000) : CDivW i m :=
  wide_div (b := 200) h0 (by omega) (by decide) (by decide)
theorem vals_rev2 {zs : List V} {ws : List Value} (r : Vals zs ws) : Vals zs.reverse ws.reverse := by
  have : ∀ {zs : List V} {ws : List Value} {as : List V} {bs : List Value}, Vals zs ws → Vals as bs → Vals (zs.reverseAux as) (ws.reverseAux bs) := by
    intro zs
    induction zs with
    | nil => intro ws as bs h k; cases h; exact k
    | cons z zs ih =>
      intro ws as bs h k
      cases h with
      | @cons _ u _ us a b =>
        show Vals (zs.reverseAux (z :: as)) (us.reverseAux (u :: bs))
        exact ih b (.cons a k)
  exact this r .nil
end Spk
namespace Spk
open PySem PySem.Spec PyProof.Rows L2
theorem eqvAllPs : ∀ ps qs : List Pr, PyData.eqvAll (ps.map prD) (qs.map prD) = decide (ps = qs)
  | [], [] => rfl
  | p :: ps, [] => rfl
  | [], q :: qs => rfl
  | p :: ps, q :: qs => by
    show (((p.1 == q.1) && ((p.2 == q.2) && true)) && PyData.eqvAll (ps.map prD) (qs.map prD)) = decide (p :: ps = q :: qs)
    rw [eqvAllPs ps qs]
    obtain ⟨a, b⟩ := p
    obtain ⟨c, d⟩ := q
    by_cases h1 : a = c <;> by_cases h2 : b = d <;> by_cases h3 : ps = qs <;> simp [h1, h2, h3]
theorem eqvPs (ps qs : List Pr) : PyData.eqv (.list (ps.map prD)) (.list (qs.map prD)) = decide (ps = qs) := eqvAllPs ps qs
theorem canLayPs : ∀ ps : List Pr, PyData.canLayAll0 (ps.map prD) = true
  | [] => rfl
  | p :: ps => by
    show (PyData.canLay0 (prD p) && PyData.canLayAll0 (ps.map prD)) = true
    rw [canLayPs ps]; rfl
theorem depthPs : ∀ ps : List Pr, PyData.depthAll (ps.map prD) ≤ 1
  | [] => Nat.zero_le _
  | p :: ps => by
    show max (PyData.depth (prD p)) (PyData.depthAll (ps.map prD)) ≤ 1
    exact Nat.max_le.mpr ⟨by show PyData.depth (.tuple [.int p.1, .int p.2]) ≤ 1; simp [PyData.depth, PyData.depthAll], depthPs ps⟩
theorem shapedPs (ps : List Pr) : SeqAt.shaped (.list (ps.map prD)) = true := by
  have h1 : PyData.canLay0 (.list (ps.map prD)) = true := canLayPs ps
  have h2 : PyData.depth (.list (ps.map prD)) ≤ 64 := by
    have := depthPs ps
    simp only [PyData.depth]; omega
  unfold SeqAt.shaped
  rw [h1, decide_eq_true h2]; rfl
theorem dpAll_get {K : PySem.W.Frag} {H : Hp} : ∀ {xs : List V} {ds : List PyData}, DpAll K H xs ds → ∀ {i : Nat} {x : V}, xs[i]? = some x → ∃ d, d ∈ ds ∧ Dp K H x d
  | _, _, .nil, i, x, h => by simp at h
  | _, _, .cons a t, 0, x, h => by
    simp at h; subst h
    exact ⟨_, List.mem_cons_self, a⟩
  | _, _, .cons a t, i + 1, x, h => by
    obtain ⟨d, h1, h2⟩ := dpAll_get t (i := i) (x := x) (by simpa using h)
    exact ⟨d, List.mem_cons_of_mem _ h1, h2⟩
def endsV (z : Bool) : V := if z then .str "shut" else .str "half"
theorem endsV_shut (z : Bool) : decide (endsV z = .str "shut") = z := by cases z <;> decide +kernel
theorem endsV_half (z : Bool) : decide (endsV z = .str "half") = !z := by cases z <;> decide +kernel
theorem endsV_scal (z : Bool) : scal (endsV z) (.str "shut") = true := by cases z <;> rfl
theorem endsV_scalH (z : Bool) : scal (endsV z) (.str "half") = true := by cases z <;> rfl
theorem strP_le {p : Pr} (h : strP p = true) : p.1 ≤ p.2 := by
  unfold strP at h
  simp only [Bool.and_eq_true, decide_eq_true_eq] at h
  exact h.2.1
theorem map_get {α β : Type} {f : α → β} {l : List α} {i : Nat} {y : β} (h : (l.map f)[i]? = some y) : ∃ x, l[i]? = some x ∧ y = f x := by
  rw [List.getElem?_map] at h
  cases e : l[i]? with
  | none => rw [e] at h; cases h
  | some x => rw [e] at h; exact ⟨x, rfl, (Option.some.inj h).symm⟩
theorem take_more {α : Type} {l : List α} {i : Nat} {x : α} (h : l[i]? = some x) : l.take (i + 1) = l.take i ++ [x] := by
  rw [List.take_add_one, h]; rfl
theorem stepJ_len (l : List Pr) (s : List Pr × Pr) : ((l.foldl stepJ s).1).length ≤ s.1.length + l.length := by
  induction l generalizing s with
  | nil => exact Nat.le_refl _
  | cons p r ih =>
    have h := ih (stepJ s p)
    have : (stepJ s p).1.length ≤ s.1.length + 1 := by unfold stepJ; split <;> simp
    simp only [List.foldl_cons, List.length_cons]; omega
theorem stepJ_len0 (l : List Pr) (p : Pr) : ((l.foldl stepJ ([], p)).1).length ≤ l.length := by
  have := stepJ_len l ([], p)
  simpa using this
end Spk
namespace Spk
open PySem PySem.Spec PyProof.Rows L2
/-- the pair that a ref's tuple holds -/
def kOf (H : Hp) : V → Int × Int
  | .ref t => match H t with
    | some (.tup [.int a, .int b]) => (a, b)
    | _ => (0, 0)
  | _ => (0, 0)
theorem kOf_at {H : Hp} {t : Addr} {p : Pr} (h : H t = some (.tup [.int p.1, .int p.2])) : kOf H (.ref t) = p := by
  show (match H t with | some (.tup [.int a, .int b]) => (a, b) | _ => (0, 0)) = p
  rw [h]
theorem Pd.map {H : Hp} : ∀ {ts : List Addr} {ps : List Pr}, Pd H ts ps → (ts.map V.ref).map (kOf H) = ps
  | [], [], _ => rfl
  | t :: ts, p :: ps, h => by
    show kOf H (.ref t) :: (ts.map V.ref).map (kOf H) = p :: ps
    rw [kOf_at h.1, Pd.map h.2]
  | [], _ :: _, h => h.elim
  | _ :: _, [], h => h.elim
theorem Pd.all {H : Hp} : ∀ {ts : List Addr} {ps : List Pr}, Pd H ts ps → ∀ x ∈ ts.map V.ref, ∃ t, x = V.ref t ∧ H t = some (.tup [.int (kOf H x).1, .int (kOf H x).2])
  | [], [], _, x, hx => by simp at hx
  | t :: ts, p :: ps, h, x, hx => by
    rcases List.mem_cons.mp (show x ∈ V.ref t :: ts.map V.ref from hx) with e | hx
    · exact ⟨t, e, by rw [e, kOf_at h.1]; exact h.1⟩
    · exact Pd.all h.2 x hx
  | [], _ :: _, h, _, _ => h.elim
  | _ :: _, [], h, _, _ => h.elim
theorem refs_of {H : Hp} : ∀ {ys : List V}, (∀ x ∈ ys, ∃ t, x = V.ref t ∧ H t = some (.tup [.int (kOf H x).1, .int (kOf H x).2])) → ∃ us, ys = us.map V.ref ∧ Pd H us (ys.map (kOf H))
  | [], _ => ⟨[], rfl, trivial⟩
  | y :: ys, h => by
    obtain ⟨t, e, ht⟩ := h y (by simp)
    obtain ⟨us, e2, pd⟩ := refs_of (ys := ys) fun x hx => h x (by simp [hx])
    exact ⟨t :: us, by rw [e, e2]; rfl, ht, pd⟩
theorem ltP_ple {k : V → Int × Int} {x y : V} (h : ltP k y x = false) : ple (k x) (k y) := by
  have h2 : ¬ (SrtO.lexB (k y) (k x) = true) := by rw [show SrtO.lexB (k y) (k x) = false from h]; decide
  rw [SrtO.lexB_iff] at h2
  unfold ple
  omega
/-- sorted of refs to pairs -/
theorem sorted_refs {H : Hp} {ts : List Addr} {ps : List Pr} {ys : List V} (pd : Pd H ts ps) (hs : SrtO.Srtd (ltP (kOf H)) ys) (hb : SrtO.Stb (ltP (kOf H)) ys (ts.map V.ref)) :
    ∃ us, ys = us.map V.ref ∧ Pd H us (srt ps) := by
  obtain ⟨us, e, pu⟩ := refs_of (H := H) (ys := ys) fun x hx => pd.all x (hb.perm.mem_iff.mp hx)
  have hp : (ys.map (kOf H)).Perm ps := by
    have := hb.perm.map (kOf H)
    rwa [pd.map] at this
  have hso : (ys.map (kOf H)).Pairwise ple := List.pairwise_map.mpr (hs.imp fun h => ltP_ple h)
  have e2 : ys.map (kOf H) = srt ps := sorted_uniq hso (srt_sorted ps) (hp.trans (srt_perm ps).symm)
  exact ⟨us, e, e2 ▸ pu⟩
end Spk
namespace Spk
open PySem PySem.Spec PyProof.Rows L2
theorem gapd_iff : ∀ {l : List Pr}, gapd l = true ↔ ∀ i p q, l[i]? = some p → l[i + 1]? = some q → p.2 < q.1
  | [] => ⟨fun _ i p q h _ => by simp at h, fun _ => rfl⟩
  | [x] => ⟨fun _ i p q _ h => by simp at h, fun _ => rfl⟩
  | x :: y :: r => by
    have ih := gapd_iff (l := y :: r)
    constructor
    · intro h i p q hp hq
      unfold gapd at h
      rw [Bool.and_eq_true, decide_eq_true_eq] at h
      cases i with
      | zero => simp at hp hq; subst hp hq; exact h.1
      | succ i => exact ih.mp h.2 i p q (by simpa using hp) (by simpa using hq)
    · intro h
      unfold gapd
      rw [Bool.and_eq_true, decide_eq_true_eq]
      exact ⟨h 0 x y rfl rfl, ih.mpr fun i p q hp hq => h (i + 1) p q (by simpa using hp) (by simpa using hq)⟩
/-- what the first i pairs have, if the list is in one form so far -/
def oneTo (z : Bool) (l : List Pr) (i : Nat) : Prop := ∀ j, j < i → ∀ p, l[j]? = some p → emp z p = false ∧ ∀ k q, j = k + 1 → l[k]? = some q → q.2 < p.1
theorem oneTo_all {z : Bool} {l : List Pr} (h : oneTo z l l.length) : oneF z l = true := by
  unfold oneF
  rw [Bool.and_eq_true, List.all_eq_true]
  constructor
  · intro p hp
    obtain ⟨j, hj⟩ := List.mem_iff_getElem?.mp hp
    have hlt : j < l.length := by
      obtain ⟨h1, _⟩ := List.getElem?_eq_some_iff.mp hj
      exact h1
    rw [(h j hlt p hj).1]; rfl
  · refine gapd_iff.mpr fun i p q hp hq => ?_
    have hlt : i + 1 < l.length := by
      obtain ⟨h1, _⟩ := List.getElem?_eq_some_iff.mp hq
      exact h1
    exact (h (i + 1) hlt q hq).2 i p rfl hp
theorem oneF_empty {z : Bool} {l : List Pr} {i : Nat} {p : Pr} (hp : l[i]? = some p) (e : emp z p = true) : oneF z l = false := by
  rw [← Bool.not_eq_true]
  intro h
  unfold oneF at h
  rw [Bool.and_eq_true, List.all_eq_true] at h
  have := h.1 p (List.mem_of_getElem? hp)
  rw [e] at this
  cases this
theorem oneF_gap {z : Bool} {l : List Pr} {i : Nat} {p q : Pr} (hp : l[i]? = some p) (hq : l[i + 1]? = some q) (e : ¬ p.2 < q.1) : oneF z l = false := by
  rw [← Bool.not_eq_true]
  intro h
  unfold oneF at h
  rw [Bool.and_eq_true] at h
  exact e (gapd_iff.mp h.2 i p q hp hq)
theorem oneTo_more {z : Bool} {l : List Pr} {i : Nat} {p : Pr} (h : oneTo z l i) (hp : l[i]? = some p) (e : emp z p = false) (g : ∀ k q, i = k + 1 → l[k]? = some q → q.2 < p.1) : oneTo z l (i + 1) := by
  intro j hj x hx
  by_cases c : j < i
  · exact h j c x hx
  · obtain rfl : j = i := by omega
    obtain rfl : p = x := Option.some.inj (hp.symm.trans hx)
    exact ⟨e, g⟩
theorem emp_half {p : Pr} (h : p.1 ≤ p.2) : emp false p = decide (p.1 = p.2) := by
  show decide (p.2 ≤ p.1) = decide (p.1 = p.2)
  rw [decide_eq_decide]; omega
theorem emp_shut {p : Pr} (h : p.1 ≤ p.2) : emp true p = false := by
  show decide (p.2 < p.1) = false
  rw [decide_eq_false_iff_not]; omega
end Spk
namespace Spk
open PySem PySem.Spec PyProof.Rows L2
theorem mulB {x f F : Int} (h1 : -1 ≤ x) (h2 : x ≤ 6) (f0 : 0 ≤ f) (fF : f ≤ F) : -F ≤ x * f ∧ x * f ≤ 6 * F := by
  have : x = -1 ∨ x = 0 ∨ x = 1 ∨ x = 2 ∨ x = 3 ∨ x = 4 ∨ x = 5 ∨ x = 6 := by omega
  rcases this with h | h | h | h | h | h | h | h <;> subst h <;> omega
theorem rowStep {f at' X Y : Int} {i : Nat} (f1 : 1 ≤ f) (f2 : f ≤ 200000000000000000001) (hi : i < 21) (x1 : -1 ≤ X) (x2 : X ≤ 3) (y1 : 0 ≤ Y) (y2 : Y ≤ 3)
    (a1 : -(200000000000000000001 * (20 + 6 * (i : Int))) ≤ at') (a2 : at' ≤ 200000000000000000001 * (20 + 6 * (i : Int))) :
    (-1000000000000000000000000000000 ≤ at' + X * f ∧ at' + X * f ≤ at' + (X + Y) * f ∧ at' + (X + Y) * f ≤ 1000000000000000000000000000000) ∧
      (-(200000000000000000001 * (20 + 6 * (((i + 1 : Nat) : Nat) : Int))) ≤ at' + (X + Y) * f ∧ at' + (X + Y) * f ≤ 200000000000000000001 * (20 + 6 * (((i + 1 : Nat) : Nat) : Int))) := by
  obtain ⟨p1, p2⟩ := mulB (x := X) (f := f) (F := 200000000000000000001) (by omega) (by omega) (by omega) f2
  obtain ⟨q1, q2⟩ := mulB (x := X + Y) (f := f) (F := 200000000000000000001) (by omega) (by omega) (by omega) f2
  have e : (X + Y) * f = X * f + Y * f := Int.add_mul X Y f
  have y0 : 0 ≤ Y * f := Int.mul_nonneg y1 (by omega)
  generalize (X + Y) * f = w at *
  generalize X * f = u at *
  generalize Y * f = v at *
  omega
theorem strP_of {b e : Int} (h1 : -1000000000000000000000000000000 ≤ b) (h2 : b ≤ e) (h3 : e ≤ 1000000000000000000000000000000) : strP (b, e) = true := by
  unfold strP edgeI
  simp only [Bool.and_eq_true, Bool.or_eq_true, decide_eq_true_eq]
  omega
theorem strP_first {p : Pr} (h : strP p = true) : strP (-10000000000000000000000000000000, p.2) = true := by
  obtain ⟨a, b⟩ := p
  unfold strP edgeI at h ⊢
  simp only [Bool.and_eq_true, Bool.or_eq_true, decide_eq_true_eq] at h ⊢
  simp only [Int.reduceNeg, Int.reduceLE, Int.reduceLT, Int.reduceEq, true_and, and_true, true_or, or_true, false_or, or_false, false_and, and_false]
  omega
theorem strP_last {p : Pr} (h : strP p = true) : strP (p.1, 10000000000000000000000000000000) = true := by
  obtain ⟨a, b⟩ := p
  unfold strP edgeI at h ⊢
  simp only [Bool.and_eq_true, Bool.or_eq_true, decide_eq_true_eq] at h ⊢
  simp only [Int.reduceNeg, Int.reduceLE, Int.reduceLT, Int.reduceEq, true_and, and_true, true_or, or_true, false_or, or_false, false_and, and_false]
  omega
theorem set_good {l : List Pr} {i : Nat} {p : Pr} (h : ∀ x ∈ l, strP x = true) (hp : strP p = true) : ∀ x ∈ l.set i p, strP x = true := fun x hx => by
  rcases List.mem_or_eq_of_mem_set hx with h1 | h1
  · exact h x h1
  · exact h1 ▸ hp
theorem shapedNil : SeqAt.shaped (.list []) = true := shapedPs []
theorem eqvNil (ps : List Pr) : PyData.eqv (.list (ps.map prD)) (.list []) = decide (ps = []) := eqvPs ps []
end Spk
namespace Spk
open PySem PySem.Spec PyProof.Rows L2
theorem ixN_nat {n j : Nat} {i : Int} (e : i = (j : Int)) (h : j < n) : ixN n i = some j := by
  subst e
  unfold ixN
  rw [if_pos (Int.natCast_nonneg j), if_pos (Int.ofNat_lt.mpr h)]
  simp
theorem ixN_last {n : Nat} (h : 0 < n) : ixN n (-1) = some (n - 1) := by
  unfold ixN
  rw [if_neg (by decide), if_pos (by omega)]
  congr 1
  omega
theorem at_last {ts : List Addr} {t : Addr} (h : ts[ts.length - 1]? = some t) : atI (ts.map V.ref) (-1) = some (.ref t) := by
  have hl : ts.length - 1 < ts.length := (List.getElem?_eq_some_iff.mp h).1
  unfold atI
  rw [ixN_last (by rw [List.length_map]; omega)]
  show (ts.map V.ref)[(ts.map V.ref).length - 1]? = some (.ref t)
  rw [List.length_map, List.getElem?_map, h]; rfl
theorem at_ref {ts : List Addr} {t : Addr} {j : Nat} {i : Int} (e : i = (j : Int)) (h : ts[j]? = some t) : atI (ts.map V.ref) i = some (.ref t) :=
  at_of e (by rw [List.getElem?_map, h]; rfl)
theorem refs_set {ts : List Addr} {j : Nat} {t : Addr} : (ts.map V.ref).set j (.ref t) = (ts.set j t).map V.ref := by
  rw [List.map_set]
end Spk
namespace Spk
open PySem PySem.Spec PyProof.Rows L2
theorem reprB (b : Bool) : (PyData.bool b).showable = true ∧ (PyData.bool b).hasDict = false ∧ (PyData.bool b).depth ≤ 64 ∧ (PyData.bool b).shown.length ≤ sizeLine := by
  cases b <;> decide +kernel
theorem reprBB (b : Bool) : (PyData.list [.bool b, .bool b]).showable = true ∧ (PyData.list [.bool b, .bool b]).hasDict = false ∧ (PyData.list [.bool b, .bool b]).depth ≤ 64 ∧ (PyData.list [.bool b, .bool b]).shown.length ≤ sizeLine := by
  cases b <;> decide +kernel
theorem mode_of {j : Nat} {x : V} (h : ([.str "half", .str "shut"] : List V)[j]? = some x) : ∃ z, x = endsV z := by
  match j, h with
  | 0, h => exact ⟨false, (Option.some.inj h).symm⟩
  | 1, h => exact ⟨true, (Option.some.inj h).symm⟩
theorem pd_nil {H : Hp} {us : List Addr} (h : Pd H us []) : us = [] := by
  cases us with
  | nil => rfl
  | cons _ _ => exact h.elim
/-- behind a bag and what is drawn with it all that was tracked ahead is as it was -/
theorem bag_same {p : Addr} {H H1 H2 : Hp} (np : H p = none) (a : But p H H1) (b : Kp p H1 H2) : Same H H2 := fun c o h =>
  b c o (ne_of_none h np) ((a c (ne_of_none h np)).trans h)
theorem union_eqv {z : Bool} {ps : List Pr} (h : ∀ p ∈ ps, strP p = true) : PyData.eqv (.list ((unionM z ps).map prD)) (.list (ps.map prD)) = oneF z ps := by
  rw [eqvPs, Bool.eq_iff_iff, decide_eq_true_eq]
  exact union_fix fun p hp => strP_le (h p hp)
end Spk
namespace Spk
open PySem PySem.Spec PyProof.Rows L2
theorem cut_to {us : List Addr} {i : Int} {n : Nat} (e : i = (n : Int)) : cutV (us.map V.ref) none (some i) = (us.take n).map V.ref := by
  subst e
  unfold cutV
  rw [HT.sIx_none, HT.sIx_nat, List.drop_zero, Nat.sub_zero, List.map_take, List.length_map]
  by_cases h : n ≤ us.length
  · rw [Nat.min_eq_left h]
  · rw [Nat.min_eq_right (by omega), List.take_of_length_le (by rw [List.length_map]; omega), List.take_of_length_le (by rw [List.length_map]; omega)]
theorem cut_from {us : List Addr} {i : Int} {n : Nat} (e : i = (n : Int)) : cutV (us.map V.ref) (some i) none = (us.drop n).map V.ref := by
  subst e
  unfold cutV
  rw [HT.sIx_none, HT.sIx_nat, List.map_drop, List.length_map]
  by_cases h : n ≤ us.length
  · rw [Nat.min_eq_left h]
    exact List.take_of_length_le (by rw [List.length_drop, List.length_map]; omega)
  · rw [Nat.min_eq_right (by omega), List.drop_of_length_le (by rw [List.length_map]; omega), List.drop_of_length_le (by rw [List.length_map]; omega), List.take_nil]
theorem Pd.take {H : Hp} : ∀ {ts : List Addr} {ps : List Pr} (n : Nat), Pd H ts ps → Pd H (ts.take n) (ps.take n)
  | [], [], _, _ => by simp [Pd]
  | t :: ts, p :: ps, 0, _ => by simp [Pd]
  | t :: ts, p :: ps, n + 1, h => ⟨h.1, Pd.take n h.2⟩
  | [], _ :: _, _, h => h.elim
  | _ :: _, [], _, h => h.elim
theorem Pd.drop {H : Hp} : ∀ {ts : List Addr} {ps : List Pr} (n : Nat), Pd H ts ps → Pd H (ts.drop n) (ps.drop n)
  | [], [], _, _ => by simp [Pd]
  | t :: ts, p :: ps, 0, h => h
  | t :: ts, p :: ps, n + 1, h => Pd.drop n h.2
  | [], _ :: _, _, h => h.elim
  | _ :: _, [], _, h => h.elim
theorem bag_not_refs {H : Hp} {p s : Addr} {c : Int} {ts : List Addr} (bg : BagAt H p c) (h : H s = some (.lst (ts.map V.ref))) : s ≠ p := by
  rintro rfl
  obtain ⟨b0, b1, b2, b3, e, _⟩ := bg
  rw [e] at h
  have h := HO.lst.inj (Option.some.inj h)
  cases ts with
  | nil => cases h
  | cons t ts => exact V.noConfusion (List.cons.inj h).1
theorem bag_not_tup {H : Hp} {p t : Addr} {c : Int} {xs : List V} (bg : BagAt H p c) (h : H t = some (.tup xs)) : t ≠ p := by
  rintro rfl
  obtain ⟨b0, b1, b2, b3, e, _⟩ := bg
  rw [e] at h; cases h
theorem bag_kp {H H' : Hp} {p q : Addr} {c : Int} (bg : BagAt H p c) (k : Kp q H H') (n : p ≠ q) : BagAt H' p c := by
  obtain ⟨b0, b1, b2, b3, e, r⟩ := bg
  exact ⟨b0, b1, b2, b3, k _ _ n e, r⟩
end Spk
namespace Spk
open PySem PySem.Spec PyProof.Rows L2
theorem strP_cutR {b : Pr} {c : Int} (h : strP b = true) (h1 : b.1 ≤ c) (h2 : c ≤ b.2) (h3 : -1000000000000000000000000000000 ≤ c) (h4 : c ≤ 1000000000000000000000000000000) : strP (c, b.2) = true := by
  unfold strP edgeI at *
  simp only [Bool.and_eq_true, Bool.or_eq_true, decide_eq_true_eq] at *
  omega
theorem strP_cutL {b : Pr} {c : Int} (h : strP b = true) (h1 : b.1 ≤ c) (h2 : c ≤ b.2) (h3 : -1000000000000000000000000000000 ≤ c) (h4 : c ≤ 1000000000000000000000000000000) : strP (b.1, c) = true := by
  unfold strP edgeI at *
  simp only [Bool.and_eq_true, Bool.or_eq_true, decide_eq_true_eq] at *
  omega
end Spk
namespace Spk
open PySem PySem.Spec PyProof.Rows L2
theorem strP_ext {c p : Pr} (h : strP c = true) (k : strP p = true) (e : c.2 < p.2) : strP (c.1, p.2) = true := by
  unfold strP edgeI at *
  simp only [Bool.and_eq_true, Bool.or_eq_true, decide_eq_true_eq] at *
  omega
end Spk

namespace Spk
open PySem PySem.Spec PyProof.Rows L2
/-! ### try: .. except X as n: .. except Y as m: .. -/
/-- a clause: the class, the slot of its name, the suite's reading -/
structure Cl where
  c : Value
  i : Nat
  ts : Addr → Value → Option Addr → TS
def wCl (K : PySem.W.Frag) (W0 : WX) (D : L2.Ends) : List Cl → WX
  | [] => W0
  | k :: r => fun cls d σ H => ∃ b, PySem.W.exmOne K cls k.c = some b ∧
      (b = true → ∀ a, H a = none → k.ts a cls d { nx := fun τ J => D.nx (τ.set k.i none) J, rt := D.rt, bk := fun τ J => D.bk (τ.set k.i none) J, ct := fun τ J => D.ct (τ.set k.i none) J } (σ.set k.i (some (.ref a))) H) ∧
      (b = false → wCl K W0 D r cls d σ H)
inductive ClOk (X : Cx) : List ExceptHandler → List Cl → Prop
  | nil : ClOk X [] []
  | cons {x n : Str} {k : Cl} {s0 : Stmt} {su : List Stmt} {np hp : Pos} {hds : List ExceptHandler} {l : List Cl} (hi : X.N[k.i]? = some n) (hln : X.env.kindOf n = some .local) (hc : Names X x k.c)
      (hsu : ∀ (a : Addr) (oe : Obj) (cls : Value) (d : Option Addr) (pn : List (Addr × Obj)), Zc cls d oe → (∃ vs, oe.data = .fields vs) → PSs (X.suite a ((a, oe) :: pn)) (s0 :: su) (k.ts a cls d))
      (r : ClOk X hds l) : ClOk X (.ExceptHandler (some (.Name x np)) (some n) (s0 :: su) hp :: hds) (k :: l)
section
variable {X : Cx} {bd : List Stmt} {h0 : ExceptHandler} {hds : List ExceptHandler} {l : List Cl} {pos : Pos} {tb : WX → TS} {W0 : WX}
theorem ps_tryN (hst : X.stack = X.env :: X.outer) (hfl : X.env.frame = some X.env.locals) (nd : X.N.Nodup) (tk : Takes X W0)
    (hbd : ∀ (W : WX) (pn : List (Addr × Obj)) (xe : Value → Shared → Prop), Takes (X.tr pn xe) W → PassesOwn (model X.prog X.w) X.A X.env xe → PSs (X.tr pn xe) bd (tb W))
    (hk : ClOk X (h0 :: hds) l) : PS X (.Try bd (h0 :: hds) [] [] pos) (fun D σ H => tb (wCl X.K W0 D l) D σ H) := by
  refine ⟨fun pins s σ H D I h => wpAny_Try_except ?_⟩
  have okx := I.ok
  have fra : X.A.frames = some (X.env :: X.outer) := okx.frames.trans (congrArg some hst)
  refine wpAny_mono ((hbd (wCl X.K W0 D l) (X.pn ++ pins) (fun e s₁ => wpAny (model X.prog X.w) X.A (noteFrame e X.env) (fun _ s₂ => wpAny (model X.prog X.w) X.A (setFlight e none) (fun _ s₃ =>
      wpAny (model X.prog X.w) X.A (handleBy e X.env (h0 :: hds)) (SP X pins D) X.xe s₃) X.xe s₂) X.xe s₁) (fun u s1 xx => ?_) PassesOwn.looking).run [] s σ H D (I.toTry _) h) (fun fl s1 hsp => ?_) (fun _ _ z => z)
  · obtain ⟨ea, gr, si, pi', τ, J, cls, d, rfl, Jt, nbg, upg, skg, nea, oss, agg, wc⟩ := xx
    have iJ : Inv X pins τ J si := Jt.ofTry okx
    have sk2 : Sky gr (X.env :: X.outer) ea (Zc cls d) X.env.locals s1.heap := hst ▸ skg
    show wpAny (model X.prog X.w) X.A (noteFrame (.ref ea) X.env) _ _ _
    refine Sky.land Zc.steady fra hfl sk2 fun g3 f3 u3 => ?_
    have i3 : Inv X pins τ J { s1 with heap := g3 } := iJ.landed nbg f3.1 (upg.trans u3) oss agg
    obtain ⟨o3, v3, e3, z3, d3⟩ := f3.there
    have nfr : ea ∉ frs (X.env :: X.outer) := fun hm => by
      obtain ⟨_, o', e', hnf⟩ := f3.2.2.1.mem hm
      obtain rfl := Option.some.inj (e3.symm.trans e')
      exact hnf _ d3
    have nL : ea ≠ X.env.locals := fun z => nfr (List.mem_filterMap.mpr ⟨X.env, List.mem_cons_self, by rw [hfl, z]⟩)
    have nF : ea ∉ X.fs := fun hm => by
      obtain ⟨en, he, q⟩ := List.mem_filterMap.mp hm
      exact nfr (List.mem_filterMap.mpr ⟨en, List.mem_cons_of_mem _ he, q⟩)
    have su3 := i3.suite e3 d3 nea nL nF
    have go : ∀ {hs2 : List ExceptHandler} {l2 : List Cl}, ClOk X hs2 l2 → wCl X.K W0 D l2 cls d τ J → wpAny (model X.prog X.w) X.A (handleBy (.ref ea) X.env hs2) (SP X pins D) X.xe { s1 with heap := g3 } := by
      intro hs2 l2 ck
      induction ck with
      | nil =>
        intro wn
        refine wpAny_handleBy_nil ?_
        obtain ⟨_, _, _, oe, vs, T, oT, ts', he, hz, hd, h1, hr⟩ := id f3
        unfold PySem.passOn
        refine wpAny_bind (wpAny_field he hd h1 ?_)
        rw [if_neg (show ¬ ((Value.ref T == Value.none) = true) from by simp)]
        have last : wpAny (model X.prog X.w) X.A (setFlight (.ref ea) X.env.frame) (fun _ s4 => wpAny (model X.prog X.w) X.A (throw (.ref ea) : Sem Flow) (SP X pins D) X.xe s4) X.xe { s1 with heap := g3 } := by
          rw [hfl]
          refine HandSPX.setFlight_upZ f3 fun g4 f4 u4 => wpAny_throw (tk _ _ ?_)
          exact ⟨ea, gr, si, pins, τ, J, cls, d, rfl, iJ, nbg, (upg.trans u3).trans u4, .inr (.inr (hst ▸ f4)), nea, oss, agg, wn⟩
        first
          | exact wpAny_bind (wpAny_pure (wpAny_bind last))
          | exact wpAny_bind last
      | @cons x n k s0 su np hp hds' l' hi hln hc hsu r ih =>
        intro wn
        obtain ⟨b, hb1, yes, no⟩ := wn
        refine wpAny_handleBy_cons (codeAny_handlers_test ?_) (fun q => nomatch q)
        have lt : PySem.W.Looks (model X.prog X.w) g3 (typeOf (.ref ea)) cls := fun _ _ _ _ kk q => wpAny_typeOf_ref (kk _ _ e3) (by rw [z3.1]; exact q)
        have lm := PySem.W.exm_one (M := model X.prog X.w) i3.kIn lt hb1
        have tst : ∀ {Q : Value → Shared → Prop} {E : Value → Shared → Prop}, Q k.c { s1 with heap := g3 } → wpAny (model X.prog X.w) (X.A.mark (some (.ref ea))) (eval (.Name x np) X.env) Q E { s1 with heap := g3 } := fun {Q E} q => by
          obtain ⟨hg, hdb, hm | ⟨hm, hv, hnn⟩⟩ := hc
          · exact ld_glob (X := X.suite ea ((ea, o3) :: (X.pn ++ pins))) su3 hg hm q hdb
          · exact ld_blt (X := X.suite ea ((ea, o3) :: (X.pn ++ pins))) su3 hg hm hv q hnn hdb
        refine tst (lm.here ?_)
        cases b with
        | true =>
          refine codeAny_handlers_suite_as (HandSPX.lands_againZ f3 fun g4 f4 u4 => ?_)
          have i4 : Inv X pins τ J { s1 with heap := g4 } := iJ.landed nbg f4.1 ((upg.trans u3).trans u4) oss agg
          obtain ⟨o4, v4, e4, z4, d4⟩ := f4.there
          have su4 := i4.suite e4 d4 nea nL nF
          refine store_ok (X := X.suite ea ((ea, o4) :: (X.pn ++ pins))) (v := .ref ea) su4 nd hi (.inl hln) rfl (fun s5 su5 => ?_) (.inr hln)
          refine wpAny_mono ((hsu ea o4 cls d (X.pn ++ pins) z4 ⟨_, d4⟩).run [] s5 _ J _ su5 (yes rfl ea nea)) (fun fl s6 hsp => ?_) (fun _ _ z => False.elim z)
          have gone : ∀ {τ6 : L2.St} {J6 : Hp} {Q : Shared → Prop}, Inv (X.suite ea ((ea, o4) :: (X.pn ++ pins))) [] τ6 J6 s6 → (∀ s7, Inv X pins (τ6.set k.i none) J6 s7 → Q s7) →
              wpAny (model X.prog X.w) X.A (do bindName X.env n .none; unbindBehindTheSuite X.env n hp) (fun _ s7 => Q s7) X.xe s6 := fun {τ6 J6 Q} s6i hq => gone_ok (s6i.unsuite okx) nd hi hln hq
          match fl, hsp with
          | .next, ⟨τ6, J6, i6, q6⟩ => exact gone i6 fun s7 i7 => ⟨_, _, i7, q6⟩
          | .brk, ⟨τ6, J6, i6, q6⟩ => exact gone i6 fun s7 i7 => ⟨_, _, i7, q6⟩
          | .cont, ⟨τ6, J6, i6, q6⟩ => exact gone i6 fun s7 i7 => ⟨_, _, i7, q6⟩
          | .ret u, ⟨v6, τ6, J6, i6, r6, q6⟩ => exact gone i6 fun s7 i7 => ⟨_, _, _, i7, r6, q6⟩
        | false =>
          show wpAny _ X.A (handleBy (.ref ea) X.env hds') _ _ _
          exact ih (no rfl)
    exact go hk wc
  · match fl, hsp with
    | .next, ⟨τ, J, i', q⟩ => exact wpAny_execs_nil ⟨τ, J, i'.ofTry okx, q⟩
    | .brk, ⟨τ, J, i', q⟩ => exact ⟨τ, J, i'.ofTry okx, q⟩
    | .cont, ⟨τ, J, i', q⟩ => exact ⟨τ, J, i'.ofTry okx, q⟩
    | .ret u, ⟨v, τ, J, i', r, q⟩ => exact ⟨v, τ, J, i'.ofTry okx, r, q⟩
end
end Spk

namespace Spk
open PySem PySem.Spec PyProof.Rows L2
/-- isinstance(e, c), e the error that the suite holds at a: of the own class at D, with its dict -/
def rIsD (K : PySem.W.Frag) (a : Addr) (cls : Value) (d : Option Addr) : List V → Hp → VK → Prop := fun xs H Q =>
  ∃ (D dd : Addr) (fs : List (Str × V)) (c : V) (cv : Value) (b : Bool), cls = .ref D ∧ d = some dd ∧ H dd = some (.xd fs) ∧ xs = [.ref a, c] ∧ ClsV c cv ∧ ExcC K D ∧ PySem.W.kitOne K (.ref D) cv = some b ∧ Q (.bl b) H
theorem call_isD {X : Cx} {a : Addr} {oe : Obj} {cls : Value} {d : Option Addr} {pn : List (Addr × Obj)} (hz : Zc cls d oe) (hf : ∃ vs, oe.data = .fields vs) :
    CallR (X.suite a ((a, oe) :: pn)) (.builtin "isinstance") (rIsD X.K a cls d) := by
  intro pins s σ H xs us Q I r h
  obtain ⟨D, dd, fs, c, cv, b, rfl, rfl, hdd, rfl, kc, C, e, q⟩ := h
  obtain ⟨u1, u2, rfl, r1, r2⟩ := vals2 r
  obtain rfl : u1 = Value.ref a := r1
  have e2 := kc.eq r2
  subst e2
  obtain ⟨ha, _⟩ := I.pin (a, oe) (List.mem_append_left _ List.mem_cons_self)
  obtain ⟨vs, hv⟩ := hf
  obtain ⟨mA, hns, _⟩ := (show ObjOk X.prog X.w H s.heap dd (.xd fs) from I.hok dd _ hdd)
  obtain ⟨od, ho, _⟩ := lookIn_ns hns
  have J : PySem.W.InstAt s.heap a oe D (some od) := ⟨ha, hz.1, by unfold PySem.W.notCls; rw [hv] <;> rfl, by rw [hz.2]; exact ho⟩
  have hcl : (PySem.W.clsIn X.K D).isSome = true := by
    obtain ⟨cd, hc, _⟩ := PySem.W.any_some C.hd
    rw [hc]; rfl
  exact PySem.W.kia_one (PySem.W.kitx_exc hcl C.hg C.hk C.hs C.ha C.hn C.ht C.hm) I.kIn J e (fun z => nomatch z) fun tk => ⟨.bl b, H, I.kept (t' := tk) fun _ _ z => z, rfl, q⟩
end Spk

namespace Spk
open PySem PySem.Spec PyProof.Rows L2
/-! ### an own error over ValueError whose __init__ stores its one argument under f -/
def sp_init (C : Addr) (f : Str) : Sp := fun vs H Q _ => ∃ (a : Addr) (v : V), vs = [.ref a, v] ∧ H a = some (exo a C none) ∧ ∀ dx, H dx = none → dx ≠ a → Q .non (upd (upd H dx (exd dx [(f, v)])) a (exo a C (some dx)))
/-- what the top has left of the class -/
structure ErrT (P : Program) (w : World) (K : PySem.W.Frag) (mg : Str → Option Value) (bh : Heap) (x f : Str) (C fI : Addr) (fd : FuncData) : Prop where
  oex : OexC K C
  xf : XfC K C
  noF : PySem.W.findIn K (.ref C) f = some none
  iC : PySem.W.findIn K (.ref C) "__init__" = some (some (.ref fI))
  tI : PySem.W.typeIn K (.ref fI) = some (.type "function")
  gC : mg x = some (.ref C)
  ini : FnOk P w K mg bh CX0 1 fI fd ["self", f] (sp_init C f)
  bd : Binds K fd ["self", f] []
  self : PySem.W.exmOne K (.ref C) (.ref C) = some true
/-- the answer to what the making of an error asks: for each new d the way out -/
theorem errK {C : Addr} {f : Str} {v : V} {H1 : Hp} {Q : XK} (h : ∀ d, H1 d = none → Q (.ref C) (some d) (upd H1 d (.xd [(f, v)]))) :
    ([v] : List V).length ≤ 1000 ∧ ∀ a, H1 a = none → sp_init C f (.ref a :: ([v] ++ [])) (upd H1 a (exo a C none))
      (fun w H2 => w = .non ∧ ∃ (d : Addr) (fs : List (Str × V)), H2 a = some (exo a C (some d)) ∧ H2 d = some (exd d fs) ∧ H1 d = none ∧ Q (.ref C) (some d) (upd (del H2 a) d (.xd fs))) (fun _ _ _ => False) := by
  refine ⟨by simp, fun a na => ⟨a, v, rfl, upd_same, fun dx ndx nea => ⟨rfl, dx, [(f, v)], upd_same, (upd_ne nea).trans upd_same, (upd_ne nea).symm.trans ndx, ?_⟩⟩⟩
  have e : upd (del (upd (upd (upd H1 a (exo a C none)) dx (exd dx [(f, v)])) a (exo a C (some dx))) a) dx (.xd [(f, v)]) = upd H1 dx (.xd [(f, v)]) := by
    funext b
    by_cases h1 : b = dx
    · subst h1; rw [upd_same, upd_same]
    · rw [upd_ne h1, upd_ne h1]
      by_cases h2 : b = a
      · subst h2; rw [del_same, na]
      · rw [del_ne h2, upd_ne h2, upd_ne h1, upd_ne h2]
  rw [e]
  exact h dx ((upd_ne nea).symm.trans ndx)
section
variable {X : Cx} {x f : Str} {C fI : Addr} {fd : FuncData} {e : Expr} {te : TE} {W : WX} {p pos pos2 : Pos}
/-- raise X(e) -/
theorem ps_raiseE {k : Nat} (hc : X.calm = true) (T : ErrT X.prog X.w X.K X.mg X.base x f C fI fd) (rm : Room k X.A) (hk : 2 ≤ k) (tk : Takes X W) (hg : Gl X x) (he : PE X e te) (hdb : (x == ("__debug__" : Str)) = false := by decide)
    (hs : starEach [e] X.env = (false, eval e X.env) :: starEach [] X.env := by rfl) (hpl : (backTo pos (starEach [] X.env)).any (·.1) = false := by rfl) :
    PS X (.Raise (some (.Call (.Name x p) [e] [] pos)) none pos2) (fun _ σ H => tMkO C (sp_init C f) [] (tCons te tNil) σ H fun cls d H' => W cls d σ H') :=
  ps_raise hc tk (pmk_oex T.oex T.iC T.tI T.ini (rm.mono hk) T.bd .nil pass0 hg T.gC (pa_cons he pa_nil hs) hdb hs hpl)
end
section
variable {P : Program} {w : World} {K : PySem.W.Frag} {mg : Str → Option Value} {bh : Heap} {C : Addr} {f qu : Str} {st : Stmt} {fI : Addr} {fd : FuncData} {q1 q2 q3 q4 : Pos}
/-- the __init__ of such a class -/
theorem ok_init (F : Fun K "__init__" qu st fI fd) (S : FnScope ["self", f] ["self", f] (defScope st)) (O : OexC K C) (noF : PySem.W.findIn K (.ref C) f = some none)
    (hb : defBody st = [.Assign [.Attribute (.Name "self" q1) f q2] (.Name f q3) q4]) (hf1 : (f == ("__debug__" : Str)) = false) (hf2 : (f == ("__classdict__" : Str)) = false)
    (v0 : (defScope st).names.lookup ("self" : Str) = some .local) (v1 : (defScope st).names.lookup f = some .local) : FnOk P w K mg bh CX0 1 fI fd ["self", f] (sp_init C f) := by
  refine F.ok S (fun vs H Q E h => ?_) (fun cdv A outer s H vs Q E hr h => ?_)
  · obtain ⟨a, v, rfl, _⟩ := h
    rfl
  · obtain ⟨a, v, rfl, ha, q⟩ := h
    rw [hb]
    refine ⟨_, pss_one (ps_ost (pv 0 rfl (Or.inl v0) (by decide) (by decide)) (pv 1 rfl (Or.inl v1) hf1 hf2)), ?_⟩
    exact ⟨_, rfl, _, rfl, a, C, rfl, O, noF, .inl ⟨ha, fun dx n ne => q dx n ne⟩⟩
end
end Spk

namespace Spk
open PySem PySem.Spec PyProof.Rows L2
theorem chr_lt (c : Char) : c.toNat < 0x110000 := by
  have h := c.valid
  show c.val.toNat < 0x110000
  rcases h with h | h
  · have : c.val.toNat < 0xd800 := h
    omega
  · exact h.2
theorem ofS_ok (s : String) : PyData.canLay0 (.str (Str.ofString s)) = true := by
  show (Str.ofString s).cps.all (· < 0x110000) = true
  rw [PySem.Str.ofString_eq_toList]
  show (s.toList.map Char.toNat).toArray.all (· < 0x110000) = true
  rw [List.all_toArray, List.all_eq_true]
  intro n hn
  obtain ⟨c, _, rfl⟩ := List.mem_map.mp hn
  exact decide_eq_true (chr_lt c)
/-! ### objects that may be shown and compared -/
structure OkD (d : PyData) : Prop where
  sh : d.showable = true
  nd : d.hasDict = false
  dp : d.depth ≤ 60
  ln : d.shown.length ≤ sizeLine
  ok : PyData.canLay0 d = true
  st : PyData.canLay0 (.str d.shown) = true
theorem OkD.shaped {d : PyData} (h : OkD d) : SeqAt.shaped d = true := by
  unfold SeqAt.shaped
  rw [h.ok, decide_eq_true (Nat.le_trans h.dp (by decide))]; rfl
theorem okD_int {i : Int} (h : i.natAbs.log2 < 1920) : OkD (.int i) where
  sh := by simpa [PyData.showable] using h
  nd := rfl
  dp := Nat.zero_le _
  ln := by rw [PyData.shown_int]; exact int_text_fits h
  ok := rfl
  st := by
    rw [PyData.shown_int]
    exact ofS_ok _
theorem log_of {i : Int} (h : -1000000000000000000000000000000000000000000000 ≤ i) (h2 : i ≤ 1000000000000000000000000000000000000000000000) : i.natAbs.log2 < 1920 :=
  Nat.lt_of_lt_of_le (PySem.Flt.log2_lt_of (k := 200) (by decide) (by omega)) (by decide)
theorem okD_bool (b : Bool) : OkD (.bool b) := by cases b <;> exact ⟨by decide +kernel, by decide +kernel, by decide +kernel, by decide +kernel, by decide +kernel, by decide +kernel⟩
theorem okD_none : OkD .none := ⟨by decide +kernel, by decide +kernel, by decide +kernel, by decide +kernel, by decide +kernel, by decide +kernel⟩
end Spk
namespace Spk
open PySem PySem.Spec PyProof.Rows L2
def rNotInT (K : PySem.W.Frag) : R2 := fun x y H Q => ∃ d ds, Dp K H x d ∧ Dp K H y (.tuple ds) ∧ SeqAt.shaped d = true ∧ PyData.canLayAll0 ds = true ∧ Q (.bl (!ds.any fun z => PyData.eqv z d)) H
section
variable {X : Cx}
theorem op_notInT (hu : X.A.units + 65 < cLine) : OpR X (compareOp .NotIn) (rNotInT X.K) := by
  intro pins s σ H x y v u Q I rx ry h
  obtain ⟨d, ds, hd, he, sd, se, q⟩ := h
  obtain ⟨as, r1⟩ := Dp.reads I d x v hd rx
  obtain ⟨bs, r2⟩ := Dp.reads I (.tuple ds) y u he ry
  exact SeqAt.notIn_tuple_reads r2 r1 se (SeqAt.canLay_of_shaped sd) (room_in_shaped sd hu) ⟨.bl _, H, I, rfl, q⟩
end
/-! ### a def that may raise, ready to be called -/
structure RdyX (P : Program) (w : World) (K : PySem.W.Frag) (mg : Str → Option Value) (bh : Heap) (x : Str) (k : Nat) (ps : List Str) (sp : Sp) (f : Addr) (fd : FuncData) : Prop where
  ok : FnOk P w K mg bh (L2.CX P w) k f fd ps sp
  gl : mg x = some (.ref f)
  kp : PySem.W.keepIn K (.ref f) = true
  bd : Binds K fd ps []
structure RdyXD (P : Program) (w : World) (K : PySem.W.Frag) (mg : Str → Option Value) (bh : Heap) (x : Str) (k : Nat) (ps : List Str) (dvs : List V) (sp : Sp) (f : Addr) (fd : FuncData) : Prop where
  ok : FnOk P w K mg bh (L2.CX P w) k f fd ps sp
  gl : mg x = some (.ref f)
  kp : PySem.W.keepIn K (.ref f) = true
  bd : Binds K fd ps []
  bd1 : ∃ ds, Vals dvs ds ∧ Binds K fd ps ds
section
variable {X : Cx} {x : Str} {k j : Nat} {ps : List Str} {dvs : List V} {sp : Sp} {f : Addr} {fd : FuncData} {p pos : Pos} {e : Expr} {es : List Expr} {t : TA} {E : XK}
/-- f(e, ..) in a def that lets f's errors out -/
theorem pe_rdyX (R : RdyX X.prog X.w X.K X.mg X.base x k ps sp f fd) (rm : Room j X.A) (hj : k ≤ j) (hg : Gl X x) (tk : Takes X (fun cls d _ H => E cls d H)) (ha : PA X (e :: es) t) (hdb : (x == ("__debug__" : Str)) = false := by decide)
    (he : starEach (e :: es) X.env = (false, eval e X.env) :: starEach es X.env := by rfl) (hpl : (backTo pos (starEach es X.env)).any (·.1) = false := by rfl) :
    PE X (.Call (.Name x p) (e :: es) [] pos) (tCall sp [] E t) := pe_call R.ok (rm.mono hj) hg R.gl R.kp R.bd .nil (passes_call tk fun _ _ _ _ h => h) ha hdb he hpl
end
end Spk
namespace Spk
open PySem PySem.Spec PyProof.Rows L2
def isMom : PyData → Bool
  | .int i => decide (-10000000000000000000000000000000 < i) && decide (i < 10000000000000000000000000000000)
  | _ => false
theorem isMom_not {d : PyData} (h : ¬ isNum d = true) : isMom d = false := by
  cases d with
  | int _ => exact absurd rfl h
  | _ => rfl
def isEnds : PyData → Bool
  | .str x => x == "half" || x == "shut"
  | _ => false
theorem ends_any (d : PyData) : (!([.str "half", .str "shut"] : List PyData).any fun z => PyData.eqv z d) = !isEnds d := by
  congr 1
  cases d with
  | str x =>
    show (((Str.ofString "half" : Str) == x) || (((Str.ofString "shut" : Str) == x) || false)) = ((x == Str.ofString "half") || (x == Str.ofString "shut"))
    rw [Bool.or_false, Bool.beq_comm (a := (Str.ofString "half")), Bool.beq_comm (a := (Str.ofString "shut"))]
  | _ => rfl
end Spk
namespace Spk
open PySem PySem.Spec PyProof.Rows L2
def holdsB (z : Bool) (p : Pr) (i : Int) : Bool := decide (p.1 ≤ i) && (if z then decide (i ≤ p.2) else decide (i < p.2))
theorem ends_of {K : PySem.W.Frag} {H : Hp} {w : V} {g : PyData} (h : Dp K H w g) (e : isEnds g = true) : ∃ z, w = endsV z := by
  cases h with
  | str x =>
    have e : (x == (Str.ofString "half") || x == (Str.ofString "shut")) = true := e
    rw [Bool.or_eq_true] at e
    rcases e with e | e
    · exact ⟨false, by rw [beq_iff_eq.mp e]; rfl⟩
    · exact ⟨true, by rw [beq_iff_eq.mp e]; rfl⟩
  | _ => cases e
def endsD (z : Bool) : PyData := if z then .str "shut" else .str "half"
theorem dp_ends {K : PySem.W.Frag} {H : Hp} (z : Bool) : Dp K H (endsV z) (endsD z) := by cases z <;> exact .str _
theorem ok_ends (z : Bool) : OkD (endsD z) := by cases z <;> exact ⟨by decide +kernel, by decide +kernel, by decide +kernel, by decide +kernel, by decide +kernel, by decide +kernel⟩
theorem isEnds_endsD (z : Bool) : isEnds (endsD z) = true := by cases z <;> decide +kernel
theorem kitStr (d : PyData) : kitB (tyN d) "str" = some (match d with | .str _ => true | _ => false) := by cases d <;> simp only [tyN] <;> decide +kernel
end Spk
namespace Spk
open PySem PySem.Spec PyProof.Rows L2
/-! ### calls within a try's body -/
section
variable {X : Cx} {CX' : CXT} {k j : Nat} {f : Addr} {fd : FuncData} {ps ks : List Str} {sp : Sp} {x : Str} {p pos : Pos} {kws : List Keyword} {tk : TA} {g : List Value → List Value → List Value} {gV : List V → List V → List V} {E : L2.St → XK}
/-- f(k = v, ..) without a positional argument, what it raises wished for at the slots -/
theorem pe_kw0S (F : FnOk X.prog X.w X.K X.mg X.base CX' k f fd ps sp) (rm : Room j X.A) (hj : k ≤ j) (hg : Gl X x) (hm : X.mg x = some (.ref f)) (hk : PySem.W.keepIn X.K (.ref f) = true) (hb : KBn X.K fd ps 0 ks g gV) (hx : ∀ σ, PassesAt CX' X σ (E σ)) (hkw : PK X kws tk)
    (hall : (backToKw pos (keywordEach kws X.env)).all (·.1.isSome) = true := by rfl) (hks : (backToKw pos (keywordEach kws X.env)).filterMap (·.1) = ks := by rfl) (hdb : (x == ("__debug__" : Str)) = false := by decide)
    (hpl : ((backTo pos (starEach [] X.env)).any (·.1) || (backToKw pos (keywordEach kws X.env)).any (·.1.isNone)) = false := by rfl) :
    PE X (.Call (.Name x p) [] kws pos) (fun σ H Q => tk σ H fun zs H2 => zs.length = ks.length ∧ sp (gV [] zs) H2 Q (E σ)) := by
  refine ⟨fun pins s σ H Q I h => wpAny_Call_Name_kw (ld_glob I hg hm ?_ hdb)⟩
  refine PySem.W.callWith_KW0 (h₀ := X.base) I.ok.mod.kin hk hall (thn (hkw.run pos pins s σ H _ I h) fun ws s2 hh => ?_) hpl
  obtain ⟨zs, H2, I2, rz, l2, q2⟩ := hh
  refine ⟨I2.kIn, ?_⟩
  rw [hks]
  have r2 := hb.rel (vs := []) (us := []) .nil rz
  refine wpAny_call (codeAny_mono (F.run X.A X.stack s2 H2 ⟨[], ks.zip ws⟩ (g [] ws) (gV [] zs) Q (E σ) (rm.mono hj) I2.env0 (hb.to s2 [] ws I2.kIn rfl (rz.length.symm.trans l2)) r2 q2) fun r s' hq => ?_)
  match r, hq with
  | .error e, hq => exact hx σ pins H2 s2 e s' I2 hq
  | .ok (.ret u), hq => exact I2.after hq
/-- repr, the room told by its units (within an except suite too) -/
theorem call_reprU (gd : X.A.guards = some []) (hu0 : X.A.units + 66 < cLine) : CallR X (.builtin "repr") (rRepr X.K) := by
  intro pins s σ J xs us R I r h
  obtain ⟨y, d, rfl, dp, hs, hnd, hdep, hz, q⟩ := h
  have hu : X.A.units + (d.depth + 1) < cLine := by omega
  obtain ⟨u, rfl, ru⟩ := vals1 r
  obtain ⟨as, rd⟩ := Dp.reads I d y u dp ru
  have fin : ∀ h' tk, (∀ b o, s.heap.get? b = some o → h'.get? b = some o) → ∀ t, EP X pins σ R (.str d.shown t) { s with heap := h', toks := tk } := fun h' tk hk t =>
    ⟨.str d.shown, J, I.kept (t' := tk) hk, ⟨t, rfl⟩, q⟩
  have here := fin s.heap (s.toks + 1) (fun _ _ z => z) s.toks
  cases dp with
  | non =>
    obtain rfl : u = Value.none := ru
    exact PySem.P.repr_of_none (by simpa only [PyData.shown_none] using here)
  | bl b =>
    obtain rfl : u = Value.bool b := ru
    refine PySem.P.repr_of_bool ?_
    simp only [PyData.shown_bool] at here
    cases b <;> exact here
  | int i =>
    obtain ⟨t, rfl⟩ := ru
    exact PySem.P.repr_of_int (by simpa [PyData.showable] using hs) (by simpa only [PyData.shown_int] using here)
  | str z =>
    obtain ⟨t, rfl⟩ := ru
    exact PySem.P.repr_of_str (by simpa only [PyData.shown_str] using here) (by simpa only [PyData.shown_str] using hz)
  | lst sq da =>
    obtain rfl := (show u = Value.ref _ from ru)
    exact repr_of_reads' rd hs (fun z => absurd z (by rw [hnd]; decide)) gd hu (fun _ _ z => z) (fun h' t tk hk => fin h' tk hk t) hz
  | tup sq da =>
    obtain rfl := (show u = Value.ref _ from ru)
    exact repr_of_reads' rd hs (fun z => absurd z (by rw [hnd]; decide)) gd hu (fun _ _ z => z) (fun h' t tk hk => fin h' tk hk t) hz
end
end Spk

namespace Spk
open PySem PySem.Spec PyProof.Rows L2
section
variable {K : PySem.W.Frag}
theorem kit_mk {t : Value} {C : Addr} {b : Bool} (h2 : PySem.W.isClsIn K C = true) (h3 : PySem.W.typeIn K (.ref C) = some (.type "type")) (h4 : PySem.W.subIn K t (.ref C) = some b) : PySem.W.kitCls K t (.ref C) = some b := by
  have e2 : ((PySem.W.clsIn K C).isSome && PySem.W.typeIn K (.ref C) == some (.type "type")) = true := by
    have h2' : (PySem.W.clsIn K C).isSome = true := h2
    rw [h2', h3] <;> rfl
  show (if ((PySem.W.clsIn K C).isSome && PySem.W.typeIn K (.ref C) == some (.type "type")) = true then PySem.W.subIn K t (.ref C) else none) = some b
  rw [if_pos e2]
  exact h4
/-- does an error of the class t meet the clause of the class C -/
theorem exm_mk {t : Value} {C : Addr} {b : Bool} (h1 : PySem.W.subIn K (.ref C) (.type "BaseException") = some true) (h2 : PySem.W.isClsIn K C = true) (h3 : PySem.W.typeIn K (.ref C) = some (.type "type")) (h4 : PySem.W.subIn K t (.ref C) = some b) :
    PySem.W.exmOne K t (.ref C) = some b := by
  have e1 : (PySem.W.subIn K (.ref C) (.type "BaseException") == some true) = true := by rw [h1] <;> rfl
  show (if (PySem.W.subIn K (.ref C) (.type "BaseException") == some true) = true then PySem.W.kitCls K t (.ref C) else none) = some b
  rw [if_pos e1]
  exact kit_mk h2 h3 h4
/-- isinstance by a built-in class -/
theorem kit_bin {C : Addr} {T : String} {b : Bool} (hm : PySem.W.kitMeta T = true) (h : PySem.W.subIn K (.ref C) (.type T) = some b) : PySem.W.kitOne K (.ref C) (.type T) = some b := by
  have e : (Value.ref C == Value.type T) = false := rfl
  show (if (Value.ref C == Value.type T) = true then some true else (if PySem.W.kitMeta T = true then PySem.W.subIn K (.ref C) (.type T) else none)) = some b
  rw [e, if_neg Bool.false_ne_true, if_pos hm]
  exact h
/-- isinstance by another own class: no -/
theorem kit_not {C D : Addr} (h2 : PySem.W.isClsIn K D = true) (h3 : PySem.W.typeIn K (.ref D) = some (.type "type")) (hs : PySem.W.subIn K (.ref D) (.ref D) = some true) (h4 : PySem.W.subIn K (.ref C) (.ref D) = some false) : PySem.W.kitOne K (.ref C) (.ref D) = some false := by
  have ne : C ≠ D := fun z => by rw [z, hs] at h4; cases h4
  have e : (Value.ref C == Value.ref D) = false := by
    cases q : (Value.ref C == Value.ref D) with
    | false => rfl
    | true => exact absurd (by have := beq_iff_eq.mp q; injection this) ne
  show (if (Value.ref C == Value.ref D) = true then some true else PySem.W.kitCls K (.ref C) (.ref D)) = some false
  rw [e, if_neg Bool.false_ne_true]
  exact kit_mk h2 h3 h4
/-- what the top must have left of an own error class over ValueError -/
structure ErrF (K : PySem.W.Frag) (C : Addr) (f : Str) : Prop where
  cls : ∃ nm q N bs bm sn sub ab col dd k0 k1 k2 k3 k5, K.lookup C = some (excClassObj nm q C N bs bm true sn sub ab col dd k0 k1 k2 k3 k5 "ValueError.__new__") ∧ PySem.HandSPX.refsVE bm = true
  sa : PySem.W.findIn K (.ref C) "__setattr__" = some (some (.builtin "object.__setattr__"))
  ga : PySem.W.findIn K (.ref C) "__getattribute__" = some (some (.builtin "BaseException.__getattribute__"))
  gg : PySem.W.findIn K (.ref C) "__getattr__" = some none
  nf : PySem.W.findIn K (.ref C) f = some none
  kC : PySem.W.keepIn K (.ref C) = true
  eC : PySem.W.subIn K (.ref C) (.type "BaseException") = some true
  tC : PySem.W.typeIn K (.ref C) = some (.type "type")
  hC : PySem.W.hasDictIn K C = true
  iC : PySem.W.isClsIn K C = true
  sC : PySem.W.subIn K (.ref C) (.ref C) = some true
theorem ErrF.xf {C : Addr} {f : Str} (h : ErrF K C f) : XfC K C := ⟨h.ga, h.gg, h.eC, h.hC⟩
theorem ErrF.oex {C : Addr} {f : Str} (h : ErrF K C f) : OexC K C := ⟨h.cls, h.sa, h.eC, h.tC, h.kC⟩
theorem ErrF.exm {C : Addr} {f : Str} {t : Value} {b : Bool} (h : ErrF K C f) (s : PySem.W.subIn K t (.ref C) = some b) : PySem.W.exmOne K t (.ref C) = some b := exm_mk h.eC h.iC h.tC s
theorem ErrF.not {C D : Addr} {f : Str} (h : ErrF K D f) (s : PySem.W.subIn K (.ref C) (.ref D) = some false) : PySem.W.kitOne K (.ref C) (.ref D) = some false := kit_not h.iC h.tC h.sC s
theorem ErrF.excC {C : Addr} {f : Str} (h : ErrF K C f) (ha : PySem.W.findIn K (.ref C) "__class__" = some (some (.builtin "object.__class__"))) (hn : PySem.W.specialIn K (.builtin "object.__class__") "__get__" = some (some (.builtin "getset_descriptor.__get__")))
    (ht : PySem.W.takesIn K (.builtin "object.__class__") = some true) (hm : PySem.W.mroIn K C (.type "object") = some true) : ExcC K C := ⟨h.ga, h.gg, h.eC, h.hC, ha, hn, ht, hm⟩
theorem ErrF.errT {P : Program} {w : World} {mg : Str → Option Value} {bh : Heap} {x f qu : Str} {C fI : Addr} {fd : FuncData} {st : Stmt} {q1 q2 q3 q4 : Pos} (h : ErrF K C f) (gC : mg x = some (.ref C))
    (iC : PySem.W.findIn K (.ref C) "__init__" = some (some (.ref fI))) (tI : PySem.W.typeIn K (.ref fI) = some (.type "function")) (F : Fun K "__init__" qu st fI fd) (bd : Binds K fd ["self", f] [])
    (S : FnScope ["self", f] ["self", f] (defScope st)) (hb : defBody st = [.Assign [.Attribute (.Name "self" q1) f q2] (.Name f q3) q4]) (hf1 : (f == ("__debug__" : Str)) = false) (hf2 : (f == ("__classdict__" : Str)) = false)
    (v0 : (defScope st).names.lookup ("self" : Str) = some .local) (v1 : (defScope st).names.lookup f = some .local) : ErrT P w K mg bh x f C fI fd :=
  ⟨h.oex, h.xf, h.nf, iC, tI, gC, ok_init F S h.oex h.nf hb hf1 hf2 v0 v1, bd, h.exm h.sC⟩
end
end Spk

/-! the text of spanloops_k02_pairs_hold_moments -/
namespace Spk
open PySem PySem.Spec PyProof.Rows L2
def topS (i : Nat) : Stmt := PySem.Challenge.pw_spanloops_k02_pairs_hold_moments.main.body.getD i (.Pass ⟨0, 0, 0, 0⟩)
structure Blt (mg : Str → Option Value) : Prop where
  b_abs : mg "abs" = none
  b_bool : mg "bool" = none
  b_int : mg "int" = none
  b_isinstance : mg "isinstance" = none
  b_len : mg "len" = none
  b_max : mg "max" = none
  b_range : mg "range" = none
  b_repr : mg "repr" = none
  b_str : mg "str" = none
structure Txt (K : PySem.W.Frag) (mg : Str → Option Value) : Prop where
  g_FIRST : ∃ t, mg "FIRST" = some (.int (-10000000000000000000000000000000) t)
  g_LAST : ∃ t, mg "LAST" = some (.int (10000000000000000000000000000000) t)
  ends : EndsT K mg
end Spk
namespace Spk
open PySem PySem.Spec PyProof.Rows L2

local macro_rules | `(tactic| walk_at "ne") => `(tactic| first | assumption | exact Ne.symm (by assumption) | exact ne_of_none (by walk_at "hp") (by assumption) | exact Ne.symm (ne_of_none (by walk_at "hp") (by assumption)))
local macro_rules | `(tactic| walk_at "hp") => `(tactic| first | assumption | exact upd_same | (refine Eq.trans (upd_ne ?_) ?_; (focus walk_at "ne"); walk_at "hp"))
local macro_rules | `(tactic| walk_at "fact") => `(tactic| first | rfl | assumption | exact SqL.hp (by walk_at "hp") | exact SqT.hp (by walk_at "hp") | walk_at "hp" | exact Or.inl (SqL.hp (by walk_at "hp")) | exact Or.inr (SqT.hp (by walk_at "hp")) | omega | decide | exact Nat.le_of_ble_eq_true rfl | exact lgDiv (by omega) (by omega) | exact Or.inl ⟨by omega, by omega⟩ | exact Or.inr ⟨by omega, by omega⟩ | exact ⟨by omega, by omega⟩ | exact ⟨by omega, by omega, by omega⟩)
local macro_rules | `(tactic| walk_at "vc1") => `(tactic| first
  | (refine And.intro ?_ ?_; (focus walk_at "fact"))
  | refine iteF ?_
  | refine iteT ?_
  | refine ite2 (fun _ => ?_) (fun _ => ?_)
  | apply Exists.intro
  | (refine Or.inl ?_; apply Exists.intro; refine And.intro rfl ?_)
  | (refine Or.inr ?_; apply Exists.intro; refine And.intro rfl ?_))
local macro_rules | `(tactic| walk_at "vc") => `(tactic| repeat' (walk_at "vc1"))
/-! is_number -/
abbrev s_is_number : Stmt := topS 7
abbrev sc_is_number_N : List Str := ["value"]
theorem sc_is_number : FnScope sc_is_number_N ["value"] (defScope s_is_number) := ⟨rfl, rfl, rfl, by decide +kernel, rfl, by decide +kernel, by decide +kernel⟩
def sp_is_number (K : PySem.W.Frag) : Sp := fun vs H Q _ => ∃ (v : V) (d : PyData), vs = [v] ∧ Dp K H v d ∧ Q (.bl (isNum d)) H
section
variable {P : Program} {w : World} {K : PySem.W.Frag} {mg : Str → Option Value} {bh : Heap}
theorem ok_is_number {f : Addr} {fd : FuncData}  (B : Blt mg) (T : Txt K mg)  (F : Fun K "is_number" "is_number" s_is_number f fd) : FnOk P w K mg bh CX0 1 f fd ["value"] (sp_is_number K) := by
  refine F.ok sc_is_number (fun vs H Q E h => ?_) (fun cdv A outer s H vs Q E hr h => ?_)
  · obtain ⟨v, d, rfl, _⟩ := h
    rfl
  · obtain ⟨v, d, rfl, dp, q⟩ := h
    refine ⟨_, (pss_one (ps_ret (pe_and (pe_callB call_isi (by rfl) B.b_isinstance (by decide +kernel) (pa_cons (pv 0) (pa_cons (pe_bltn (v := .ty "int") (by rfl) B.b_int (by decide +kernel) rfl) pa_nil))) (pe_one (pe_not (pe_callB call_isi (by rfl) B.b_isinstance (by decide +kernel) (pa_cons (pv 0) (pa_cons (pe_bltn (v := .ty "bool") (by rfl) B.b_bool (by decide +kernel) rfl) pa_nil)))))))), ?_⟩
    refine ⟨v, rfl, _, _, _, _, _, rfl, .ty _, dpTy dp, kit_ty (kitInt d), _, rfl, ?_⟩
    refine ite2 (fun c => ?_) (fun c => ?_)
    · refine ⟨v, rfl, _, _, _, _, _, rfl, .ty _, dpTy dp, kit_ty (kitBool d), _, rfl, ?_⟩
      rw [isNum_eq, c] at q
      exact q
    · rw [isNum_eq, Bool.eq_false_iff.mpr c] at q
      exact q
end
/-! is_moment -/
abbrev s_is_moment : Stmt := topS 8
abbrev sc_is_moment_N : List Str := ["value"]
theorem sc_is_moment : FnScope sc_is_moment_N ["value"] (defScope s_is_moment) := ⟨rfl, rfl, rfl, by decide +kernel, rfl, by decide +kernel, by decide +kernel⟩
def sp_is_moment (K : PySem.W.Frag) : Sp := fun vs H Q _ => ∃ (v : V) (d : PyData), vs = [v] ∧ Dp K H v d ∧ Q (.bl (isMom d)) H
section
variable {P : Program} {w : World} {K : PySem.W.Frag} {mg : Str → Option Value} {bh : Heap}
theorem ok_is_moment {f : Addr} {fd : FuncData} {f_is_number : Addr} {fd_is_number : FuncData} (B : Blt mg) (T : Txt K mg) (R_is_number : Rdy P w K mg bh "is_number" 1 ["value"] (sp_is_number K) f_is_number fd_is_number) (F : Fun K "is_moment" "is_moment" s_is_moment f fd) : FnOk P w K mg bh CX0 2 f fd ["value"] (sp_is_moment K) := by
  refine F.ok sc_is_moment (fun vs H Q E h => ?_) (fun cdv A outer s H vs Q E hr h => ?_)
  · obtain ⟨v, d, rfl, _⟩ := h
    rfl
  · obtain ⟨v, d, rfl, dp, q⟩ := h
    refine ⟨_, (pss_one (ps_ret (pe_and (pe_rdy R_is_number hr (by decide) (by rfl) (pa_cons (pv 0) pa_nil)) (pe_one (pe_chain op_lt op_lt (pe_globI T.g_FIRST (by rfl)) (pv 0) (pe_globI T.g_LAST (by rfl))))))), ?_⟩
    refine ⟨v, rfl, v, d, rfl, dp, _, rfl, ?_⟩
    refine ite2 (fun c => ?_) (fun c => ?_)
    · obtain ⟨i, rfl, rfl⟩ := int_of dp c
      refine ⟨_, rfl, _, _, rfl, rfl, _, rfl, ?_⟩
      refine ite2 (fun c1 => ?_) (fun c1 => ?_)
      · refine ⟨_, _, rfl, rfl, ?_⟩
        have e : isMom (.int i) = decide (i < 10000000000000000000000000000000) := by show (decide (-10000000000000000000000000000000 < i) && decide (i < 10000000000000000000000000000000)) = _; rw [c1, Bool.true_and]
        rw [e] at q
        exact q
      · have e : isMom (.int i) = false := by show (decide (-10000000000000000000000000000000 < i) && decide (i < 10000000000000000000000000000000)) = _; rw [Bool.eq_false_iff.mpr c1, Bool.false_and]
        rw [e] at q
        exact q
    · rw [isMom_not c] at q
      exact q
end
/-! check_moment -/
abbrev s_check_moment : Stmt := topS 9
abbrev sc_check_moment_N : List Str := ["moment"]
theorem sc_check_moment : FnScope sc_check_moment_N ["moment"] (defScope s_check_moment) := ⟨rfl, rfl, rfl, by decide +kernel, rfl, by decide +kernel, by decide +kernel⟩
def sp_check_moment (K : PySem.W.Frag) (C : Addr) : Sp := fun vs H Q E => ∃ (v : V) (d : PyData), vs = [v] ∧ Dp K H v d ∧ (isMom d = true → Q .non H) ∧ (isMom d = false → ∀ dd, H dd = none → E (.ref C) (some dd) (upd H dd (.xd [(("moment" : Str), v)])))
section
variable {P : Program} {w : World} {K : PySem.W.Frag} {mg : Str → Option Value} {bh : Heap}
theorem ok_check_moment {f : Addr} {fd : FuncData} {C_BadMoment fI_BadMoment : Addr} {fdE_BadMoment : FuncData} {f_is_moment : Addr} {fd_is_moment : FuncData} (B : Blt mg) (T : Txt K mg) (E_BadMoment : ErrT P w K mg bh "BadMoment" "moment" C_BadMoment fI_BadMoment fdE_BadMoment) (R_is_moment : Rdy P w K mg bh "is_moment" 2 ["value"] (sp_is_moment K) f_is_moment fd_is_moment) (F : Fun K "check_moment" "check_moment" s_check_moment f fd) : FnOk P w K mg bh (L2.CX P w) 3 f fd ["moment"] (sp_check_moment K C_BadMoment) := by
  refine F.okX sc_check_moment (fun vs H Q E h => ?_) (fun cdv A outer s H vs Q E hr h => ?_)
  · obtain ⟨v, d, rfl, _⟩ := h
    rfl
  · obtain ⟨v, d, rfl, dp, q, qe⟩ := h
    refine ⟨_, (pss_one (ps_if (pt_not (pt_val (pe_rdy R_is_moment hr (by decide) (by rfl) (pa_cons (pv 0) pa_nil))))
      (pss_one (ps_raiseE rfl E_BadMoment hr (by decide) (takes_of rfl rfl rfl rfl) (by rfl) (pv 0)))
      pss_nil)), ?_⟩
    refine ⟨_, rfl, v, d, rfl, dp, _, rfl, ?_⟩
    refine ite2 (fun c => ?_) (fun c => ?_)
    · exact ⟨_, rfl, errK fun dd nd => qe (by simpa using c) dd nd⟩
    · exact q (by simpa using c)
end
/-! check_ends -/
abbrev s_check_ends : Stmt := topS 10
abbrev sc_check_ends_N : List Str := ["ends"]
theorem sc_check_ends : FnScope sc_check_ends_N ["ends"] (defScope s_check_ends) := ⟨rfl, rfl, rfl, by decide +kernel, rfl, by decide +kernel, by decide +kernel⟩
def sp_check_ends (K : PySem.W.Frag) (C : Addr) : Sp := fun vs H Q E => ∃ (v : V) (d : PyData), vs = [v] ∧ Dp K H v d ∧ SeqAt.shaped d = true ∧ (isEnds d = true → ∀ H', Same H H' → Q .non H') ∧ (isEnds d = false → ∀ dd H', Same H H' → H' dd = some (.xd [(("ends" : Str), v)]) → E (.ref C) (some dd) H')
section
variable {P : Program} {w : World} {K : PySem.W.Frag} {mg : Str → Option Value} {bh : Heap}
theorem ok_check_ends {f : Addr} {fd : FuncData} {C_BadEnds fI_BadEnds : Addr} {fdE_BadEnds : FuncData} (B : Blt mg) (T : Txt K mg) (E_BadEnds : ErrT P w K mg bh "BadEnds" "ends" C_BadEnds fI_BadEnds fdE_BadEnds) (F : Fun K "check_ends" "check_ends" s_check_ends f fd) : FnOk P w K mg bh (L2.CX P w) 3 f fd ["ends"] (sp_check_ends K C_BadEnds) := by
  refine F.okX sc_check_ends (fun vs H Q E h => ?_) (fun cdv A outer s H vs Q E hr h => ?_)
  · obtain ⟨v, d, rfl, _⟩ := h
    rfl
  · obtain ⟨v, d, rfl, dp, sd, q, qe⟩ := h
    refine ⟨_, (pss_one (ps_if (pt_cmpR (op_notInT (Nat.lt_of_le_of_lt (Nat.add_le_add_left (by decide : 65 ≤ 200) _) (Nat.lt_of_le_of_lt (Nat.add_le_add_right (Nat.le_add_right _ _) _) hr.un))) (pv 0) (pe_tup (pa_cons (pe_half T.ends (by rfl)) (pa_cons (pe_shut T.ends (by rfl)) pa_nil))) (by rfl))
      (pss_one (ps_raiseE rfl E_BadEnds hr (by decide) (takes_of rfl rfl rfl rfl) (by rfl) (pv 0)))
      pss_nil)), ?_⟩
    refine ⟨_, rfl, (by show 2 ≤ sizeLine; decide), fun p hp => ?_⟩
    have sp1 := Same.new (o := .tup [V.str "half", V.str "shut"]) hp
    refine ⟨d, [.str "half", .str "shut"], sameD sp1 d dp, .tup (SqT.hp upd_same) (.cons (.str _) (.cons (.str _) .nil)), sd, by decide +kernel, _, rfl, ?_⟩
    rw [ends_any]
    refine ite2 (fun c => ?_) (fun c => ?_)
    · refine ⟨_, rfl, errK fun dd nd => qe (by simpa using c) dd _ (sp1.trans (Same.new nd)) upd_same⟩
    · exact q (by simpa using c) _ sp1
end
/-! holds -/
abbrev s_holds : Stmt := topS 11
abbrev sc_holds_N : List Str := ["pair", "moment", "ends", "begin", "end"]
theorem sc_holds : FnScope sc_holds_N ["pair", "moment", "ends"] (defScope s_holds) := ⟨rfl, rfl, rfl, by decide +kernel, rfl, by decide +kernel, by decide +kernel⟩
def sp_holds (K : PySem.W.Frag) (CM CE : Addr) : Sp := fun vs H Q E => ∃ (t : Addr) (b e : Int) (v w : V) (d g : PyData), vs = [.ref t, v, w] ∧ SqT K H t [.int b, .int e] ∧ Dp K H v d ∧ Dp K H w g ∧ SeqAt.shaped g = true ∧ (isMom d = false → ∀ dd H', Same H H' → H' dd = some (.xd [(("moment" : Str), v)]) → E (.ref CM) (some dd) H') ∧ (isMom d = true → isEnds g = false → ∀ dd H', Same H H' → H' dd = some (.xd [(("ends" : Str), w)]) → E (.ref CE) (some dd) H') ∧ (∀ i z, d = .int i → w = endsV z → isMom d = true → ∀ H', Same H H' → Q (.bl (holdsB z (b, e) i)) H')
section
variable {P : Program} {w : World} {K : PySem.W.Frag} {mg : Str → Option Value} {bh : Heap}
theorem ok_holds {f : Addr} {fd : FuncData} {C_BadMoment fI_BadMoment : Addr} {fdE_BadMoment : FuncData} {C_BadEnds fI_BadEnds : Addr} {fdE_BadEnds : FuncData} {f_check_moment : Addr} {fd_check_moment : FuncData} {f_check_ends : Addr} {fd_check_ends : FuncData} (B : Blt mg) (T : Txt K mg) (E_BadMoment : ErrT P w K mg bh "BadMoment" "moment" C_BadMoment fI_BadMoment fdE_BadMoment) (E_BadEnds : ErrT P w K mg bh "BadEnds" "ends" C_BadEnds fI_BadEnds fdE_BadEnds) (R_check_moment : RdyX P w K mg bh "check_moment" 3 ["moment"] (sp_check_moment K C_BadMoment) f_check_moment fd_check_moment) (R_check_ends : RdyX P w K mg bh "check_ends" 3 ["ends"] (sp_check_ends K C_BadEnds) f_check_ends fd_check_ends) (F : FunD K "holds" "holds" (defArgs s_holds) (defBody s_holds) (defScope s_holds) [.str "half"] [] f fd) : FnOk P w K mg bh (L2.CX P w) 4 f fd ["pair", "moment", "ends"] (sp_holds K C_BadMoment C_BadEnds) := by
  refine F.ok sc_holds (fun vs H Q E h => ?_) (fun cdv A outer s H vs Q E hr h => ?_)
  · obtain ⟨t, b, e, v, w, d, g, rfl, _⟩ := h
    rfl
  · obtain ⟨t, b, e, v, w, d, g, rfl, sq, dv, dw, sg, q1, q2, q3⟩ := h
    refine ⟨_, (pss_cons (ps_expr (pe_rdyX R_check_moment hr (by decide) (by rfl) (takes_of rfl rfl rfl rfl) (pa_cons (pv 1) pa_nil)))
      (pss_cons (ps_expr (pe_rdyX R_check_ends hr (by decide) (by rfl) (takes_of rfl rfl rfl rfl) (pa_cons (pv 2) pa_nil)))
      (pss_cons (ps_asg (pv 0) (pg_tup (by rfl) (pgs_cons (pg_name (i := 3) sc_holds.nd rfl (Or.inl rfl)) (pgs_cons (pg_name (i := 4) sc_holds.nd rfl (Or.inl rfl)) pgs_nil))))
      (pss_cons (ps_if (pt_cmpR op_eq (pv 2) (pe_shut T.ends (by rfl)) (nomark _))
      (pss_one (ps_ret (pe_chain op_le op_le (pv 3) (pv 1) (pv 4))))
      pss_nil)
      (pss_one (ps_ret (pe_chain op_le op_lt (pv 3) (pv 1) (pv 4)))))))), ?_⟩
    refine ⟨_, rfl, v, d, rfl, dv, fun hm => ?_, fun hm dd nd => q1 hm dd _ (Same.new nd) upd_same⟩
    refine ⟨_, rfl, w, g, rfl, dw, sg, fun he H1 s1 => ?_, fun he dd H' s' hx => q2 hm he dd H' s' hx⟩
    obtain ⟨i, rfl, rfl⟩ := int_of dv (by cases d <;> first | rfl | cases hm)
    obtain ⟨z, rfl⟩ := ends_of dw he
    have fin := q3 i z rfl rfl hm H1 s1
    refine ⟨_, rfl, t, _, rfl, sameT s1 sq, rfl, _, _, rfl, _, _, rfl, rfl, ?_⟩
    refine ⟨_, rfl, endsV_scal z, _, rfl, ?_⟩
    rw [endsV_shut]
    cases z with
    | true =>
      refine iteT ⟨_, rfl, _, rfl, _, _, rfl, rfl, _, rfl, ?_⟩
      refine ite2 (fun c => ?_) (fun c => ?_)
      · refine ⟨_, rfl, _, _, rfl, rfl, ?_⟩
        rw [show holdsB true (b, e) i = decide (i ≤ e) from by show (decide (b ≤ i) && decide (i ≤ e)) = _; rw [c, Bool.true_and]] at fin
        exact fin
      · rw [show holdsB true (b, e) i = false from by show (decide (b ≤ i) && decide (i ≤ e)) = _; rw [Bool.eq_false_iff.mpr c, Bool.false_and]] at fin
        exact fin
    | false =>
      refine iteF ⟨_, rfl, _, rfl, _, _, rfl, rfl, _, rfl, ?_⟩
      refine ite2 (fun c => ?_) (fun c => ?_)
      · refine ⟨_, rfl, _, _, rfl, rfl, ?_⟩
        rw [show holdsB false (b, e) i = decide (i < e) from by show (decide (b ≤ i) && decide (i < e)) = _; rw [c, Bool.true_and]] at fin
        exact fin
      · rw [show holdsB false (b, e) i = false from by show (decide (b ≤ i) && decide (i < e)) = _; rw [Bool.eq_false_iff.mpr c, Bool.false_and]] at fin
        exact fin
end
/-! is_empty -/
abbrev s_is_empty : Stmt := topS 12
abbrev sc_is_empty_N : List Str := ["pair", "ends", "begin", "end"]
theorem sc_is_empty : FnScope sc_is_empty_N ["pair", "ends"] (defScope s_is_empty) := ⟨rfl, rfl, rfl, by decide +kernel, rfl, by decide +kernel, by decide +kernel⟩
def sp_is_empty (K : PySem.W.Frag) (CE : Addr) : Sp := fun vs H Q E => ∃ (t : Addr) (b e : Int) (w : V) (g : PyData), vs = [.ref t, w] ∧ SqT K H t [.int b, .int e] ∧ Dp K H w g ∧ SeqAt.shaped g = true ∧ (isEnds g = false → ∀ dd H', Same H H' → H' dd = some (.xd [(("ends" : Str), w)]) → E (.ref CE) (some dd) H') ∧ (∀ z, w = endsV z → ∀ H', Same H H' → Q (.bl (emp z (b, e))) H')
section
variable {P : Program} {w : World} {K : PySem.W.Frag} {mg : Str → Option Value} {bh : Heap}
theorem ok_is_empty {f : Addr} {fd : FuncData} {C_BadEnds fI_BadEnds : Addr} {fdE_BadEnds : FuncData} {f_check_ends : Addr} {fd_check_ends : FuncData} (B : Blt mg) (T : Txt K mg) (E_BadEnds : ErrT P w K mg bh "BadEnds" "ends" C_BadEnds fI_BadEnds fdE_BadEnds) (R_check_ends : RdyX P w K mg bh "check_ends" 3 ["ends"] (sp_check_ends K C_BadEnds) f_check_ends fd_check_ends) (F : FunD K "is_empty" "is_empty" (defArgs s_is_empty) (defBody s_is_empty) (defScope s_is_empty) [.str "half"] [] f fd) : FnOk P w K mg bh (L2.CX P w) 4 f fd ["pair", "ends"] (sp_is_empty K C_BadEnds) := by
  refine F.ok sc_is_empty (fun vs H Q E h => ?_) (fun cdv A outer s H vs Q E hr h => ?_)
  · obtain ⟨t, b, e, w, g, rfl, _⟩ := h
    rfl
  · obtain ⟨t, b, e, w, g, rfl, sq, dw, sg, q2, q3⟩ := h
    refine ⟨_, (pss_cons (ps_expr (pe_rdyX R_check_ends hr (by decide) (by rfl) (takes_of rfl rfl rfl rfl) (pa_cons (pv 1) pa_nil)))
      (pss_cons (ps_asg (pv 0) (pg_tup (by rfl) (pgs_cons (pg_name (i := 2) sc_is_empty.nd rfl (Or.inl rfl)) (pgs_cons (pg_name (i := 3) sc_is_empty.nd rfl (Or.inl rfl)) pgs_nil))))
      (pss_cons (ps_if (pt_cmpR op_eq (pv 1) (pe_shut T.ends (by rfl)) (nomark _))
      (pss_one (ps_ret (pe_cmpR op_gt (pv 2) (pv 3) (nomark _))))
      pss_nil)
      (pss_one (ps_ret (pe_cmpR op_ge (pv 2) (pv 3) (nomark _))))))), ?_⟩
    refine ⟨_, rfl, w, g, rfl, dw, sg, fun he H1 s1 => ?_, fun he dd H' s' hx => q2 he dd H' s' hx⟩
    obtain ⟨z, rfl⟩ := ends_of dw he
    have fin := q3 z rfl H1 s1
    refine ⟨_, rfl, t, _, rfl, sameT s1 sq, rfl, _, _, rfl, _, _, rfl, rfl, ?_⟩
    refine ⟨_, rfl, endsV_scal z, _, rfl, ?_⟩
    rw [endsV_shut]
    cases z with
    | true => exact iteT ⟨_, rfl, _, rfl, _, _, rfl, rfl, fin⟩
    | false => exact iteF ⟨_, rfl, _, rfl, _, _, rfl, rfl, fin⟩
end
/-! _law_bag -/
abbrev s_l_bag : Stmt := topS 14
abbrev sc_l_bag_N : List Str := ["_law_script", "_law_at", "_law_cell"]
theorem sc_l_bag : FnScope sc_l_bag_N ["_law_script", "_law_at"] (defScope s_l_bag) := ⟨rfl, rfl, rfl, by decide +kernel, rfl, by decide +kernel, by decide +kernel⟩
def sp_l_bag (K : PySem.W.Frag) : Sp := fun vs H Q _ => ∃ (a : Addr) (ns : List Int) (i : Int), vs = [.ref a, .int i] ∧ SqL K H a (ns.map V.int) ∧ 0 ≤ i ∧ i ≤ 63 ∧ ∀ p H', H p = none → BagAt H' p 0 → But p H H' → Q (.ref p) H'
section
variable {P : Program} {w : World} {K : PySem.W.Frag} {mg : Str → Option Value} {bh : Heap}
theorem ok_l_bag {f : Addr} {fd : FuncData}  (B : Blt mg) (T : Txt K mg)  (F : Fun K "_law_bag" "_law_bag" s_l_bag f fd) : FnOk P w K mg bh CX0 1 f fd ["_law_script", "_law_at"] (sp_l_bag K) := by
  refine F.ok sc_l_bag (fun vs H Q E h => ?_) (fun cdv A outer s H vs Q E hr h => ?_)
  · obtain ⟨a, ns, i, rfl, _⟩ := h
    rfl
  · obtain ⟨a, ns, i, rfl, sq, i0, i63, q⟩ := h
    refine ⟨_, (pss_cons (ps_set (i := 2) sc_l_bag.nd rfl (Or.inl rfl) (pe_ifExp (pt_cmpR op_lt (pv 1) (pe_callB call_len_seq (by rfl) B.b_len (by decide +kernel) (pa_cons (pv 0) pa_nil)) (nomark _)) (pe_ix ix_list (pv 0) (pv 1) (fun _ _ => rfl)) pe_int))
      (pss_one (ps_ret (pe_lst (pa_cons (pe_ifExp (pt_cmpR op_ge (pe_callB call_abs (by rfl) B.b_abs (by decide +kernel) (pa_cons (pv 2) pa_nil)) (pe_op op_pow pe_int pe_int) (nomark _)) (pe_callB call_abs (by rfl) B.b_abs (by decide +kernel) (pa_cons (pv 2) pa_nil)) pe_int) (pa_cons (pe_op op_mod (pe_callTy call_int1 (by rfl) B.b_int (by decide +kernel) (pa_cons (pv 2) pa_nil)) pe_int) (pa_cons (pe_op op_add (pe_op op_mul pe_int (pv 1)) pe_int) (pa_cons pe_int pa_nil)))))))), ?_⟩
    refine ⟨_, rfl, _, rfl, a, _, rfl, .inl sq, _, _, rfl, rfl, _, rfl, ?_⟩
    have fin : ∀ (n b0 : Int) (p : Addr), 0 ≤ b0 → H p = none → Q (.ref p) (upd H p (.lst [.int b0, .int (n % 2305843009213693951), .int (6151 * i + 389), .int 0])) := fun n b0 p h0 np =>
      q p _ np ⟨b0, n % 2305843009213693951, 6151 * i + 389, 0, upd_same, h0, by omega, by omega, by omega, by omega, by omega, by omega⟩ fun b nb => upd_ne nb
    have ab : ∀ n : Int, 0 ≤ (if n < 0 then -n else n) := fun n => by split <;> omega
    refine ite2 (fun c => ?_) (fun c => ?_)
    · have ci : i < (ns.map V.int).length := of_decide_eq_true c
      obtain ⟨n, hn⟩ : ∃ n, (ns.map V.int)[i.toNat]? = some (.int n) := by
        rw [List.length_map] at ci
        have : i.toNat < ns.length := by omega
        exact ⟨ns[i.toNat], by rw [List.getElem?_map, List.getElem?_eq_getElem this]; rfl⟩
      refine ⟨_, rfl, _, rfl, a, _, i, .int n, rfl, rfl, sq, at_of (by omega) hn, ?_⟩
      walk_at "vc"
      · intro p np
        exact fin n _ p (ab n) np
      · intro p np
        exact fin n _ p (Int.le_refl 0) np
    · walk_at "vc"
      all_goals (intro p np; first | exact fin 0 _ p (ab 0) np | exact fin 0 _ p (Int.le_refl 0) np)
end
/-! _law_take -/
abbrev s_l_take : Stmt := topS 15
abbrev sc_l_take_N : List Str := ["_law_bag_here", "_law_many", "_law_digit", "_law_mixed"]
theorem sc_l_take : FnScope sc_l_take_N ["_law_bag_here", "_law_many"] (defScope s_l_take) := ⟨rfl, rfl, rfl, by decide +kernel, rfl, by decide +kernel, by decide +kernel⟩
def sp_l_take (K : PySem.W.Frag) : Sp := fun vs H Q _ => ∃ (p : Addr) (m c : Int), vs = [.ref p, .int m] ∧ BagAt H p c ∧ c ≤ 1073741824 ∧ 0 < m ∧ m ≤ 1000000000000000000000000000000000000000000000 ∧ ∀ r H', 0 ≤ r → r < m → BagAt H' p (c + 1) → But p H H' → Q (.int r) H'
section
variable {P : Program} {w : World} {K : PySem.W.Frag} {mg : Str → Option Value} {bh : Heap}
theorem ok_l_take {f : Addr} {fd : FuncData}  (B : Blt mg) (T : Txt K mg)  (F : Fun K "_law_take" "_law_take" s_l_take f fd) : FnOk P w K mg bh CX0 1 f fd ["_law_bag_here", "_law_many"] (sp_l_take K) := by
  refine F.ok sc_l_take (fun vs H Q E h => ?_) (fun cdv A outer s H vs Q E hr h => ?_)
  · obtain ⟨p, m, c, rfl, _⟩ := h
    rfl
  · obtain ⟨p, m, c, rfl, ⟨b0, b1, b2, b3, hp, h0, h1, h1', h2, h2', h3, h3'⟩, hc, hm, hm', q⟩ := h
    refine ⟨_, (pss_cons (ps_if (pt_cmpR op_gt (pe_ix ix_list (pv 0) pe_int (fun _ _ => rfl)) pe_int (nomark _))
      (pss_cons (ps_set (i := 2) sc_l_take.nd rfl (Or.inl rfl) (pe_op op_mod (pe_callTy call_int1 (by rfl) B.b_int (by decide +kernel) (pa_cons (pe_ix ix_list (pv 0) pe_int (fun _ _ => rfl)) pa_nil)) (pv 1)))
      (pss_cons (ps_asg (pe_op op_fdivW (pe_ix ix_list (pv 0) pe_int (fun _ _ => rfl)) (pv 1)) (pg_sub (pv 0) pe_int set_list))
      (pss_one (ps_ret (pv 2)))))
      pss_nil)
      (pss_cons (ps_asg (pe_op op_add (pe_ix ix_list (pv 0) pe_int (fun _ _ => rfl)) pe_int) (pg_sub (pv 0) pe_int set_list))
      (pss_cons (ps_set (i := 3) sc_l_take.nd rfl (Or.inl rfl) (pe_op op_mod (pe_callTy call_int1 (by rfl) B.b_int (by decide +kernel) (pa_cons (pe_op op_pow (pe_op op_add (pe_op op_add (pe_ix ix_list (pv 0) pe_int (fun _ _ => rfl)) (pe_op op_mul pe_int (pe_ix ix_list (pv 0) pe_int (fun _ _ => rfl)))) (pe_ix ix_list (pv 0) pe_int (fun _ _ => rfl))) pe_int) pa_nil)) pe_int))
      (pss_cons (ps_set (i := 3) sc_l_take.nd rfl (Or.inl rfl) (pe_op op_mod (pe_callTy call_int1 (by rfl) B.b_int (by decide +kernel) (pa_cons (pe_op op_pow (pe_op op_add (pv 3) (pe_op op_mul pe_int (pe_ix ix_list (pv 0) pe_int (fun _ _ => rfl)))) pe_int) pa_nil)) pe_int))
      (pss_one (ps_ret (pe_op op_mod (pe_callTy call_int1 (by rfl) B.b_int (by decide +kernel) (pa_cons (pe_op op_fdivW (pv 3) pe_int) pa_nil)) (pv 1)))))))), ?_⟩
    walk_at "vc"
    · exact q _ _ (Int.emod_nonneg _ (by omega)) (Int.emod_lt_of_pos _ hm) ⟨_, b1, b2, b3, upd_same, Int.ediv_nonneg h0 (by omega), h1, h1', h2, h2', h3, by omega⟩ fun b n => upd_ne n
    · exact q _ _ (Int.emod_nonneg _ (by omega)) (Int.emod_lt_of_pos _ hm) ⟨b0, b1, b2, _, upd_same, h0, h1, h1', h2, h2', by omega, by omega⟩ fun b n => upd_ne n
end
/-! _law_edge -/
abbrev s_l_edge : Stmt := topS 16
abbrev sc_l_edge_N : List Str := ["_law_bag_here", "_law_kind"]
theorem sc_l_edge : FnScope sc_l_edge_N ["_law_bag_here"] (defScope s_l_edge) := ⟨rfl, rfl, rfl, by decide +kernel, rfl, by decide +kernel, by decide +kernel⟩
def sp_l_edge (K : PySem.W.Frag) : Sp := fun vs H Q _ => ∃ (p : Addr) (c : Int), vs = [.ref p] ∧ BagAt H p c ∧ c ≤ 1000000 ∧ ∀ r H', -1000000000000000000000000000000 ≤ r → r ≤ 1000000000000000000000000000000 → BagAt H' p (c + 3) → But p H H' → Q (.int r) H'
section
variable {P : Program} {w : World} {K : PySem.W.Frag} {mg : Str → Option Value} {bh : Heap}
theorem ok_l_edge {f : Addr} {fd : FuncData} {f_l_take : Addr} {fd_l_take : FuncData} (B : Blt mg) (T : Txt K mg) (R_l_take : Rdy P w K mg bh "_law_take" 1 ["_law_bag_here", "_law_many"] (sp_l_take K) f_l_take fd_l_take) (F : Fun K "_law_edge" "_law_edge" s_l_edge f fd) : FnOk P w K mg bh CX0 2 f fd ["_law_bag_here"] (sp_l_edge K) := by
  refine F.ok sc_l_edge (fun vs H Q E h => ?_) (fun cdv A outer s H vs Q E hr h => ?_)
  · obtain ⟨p, c, rfl, _⟩ := h
    rfl
  · obtain ⟨p, c, rfl, bg, hc, q⟩ := h
    refine ⟨_, (pss_cons (ps_set (i := 1) sc_l_edge.nd rfl (Or.inl rfl) (pe_rdy R_l_take hr (by decide) (by rfl) (pa_cons (pv 0) (pa_cons pe_int pa_nil))))
      (pss_cons (ps_if (pt_cmpR op_eq (pv 1) pe_int (nomark _))
      (pss_one (ps_ret (pe_op op_sub (pe_rdy R_l_take hr (by decide) (by rfl) (pa_cons (pv 0) (pa_cons (pe_op op_add (pe_op op_mul pe_int (pe_op op_pow pe_int pe_int)) pe_int) pa_nil))) (pe_op op_pow pe_int pe_int))))
      pss_nil)
      (pss_cons (ps_if (pt_cmpR op_eq (pv 1) pe_int (nomark _))
      (pss_one (ps_ret (pe_op op_mul (pe_op op_sub (pe_op op_pow pe_int pe_int) (pe_rdy R_l_take hr (by decide) (by rfl) (pa_cons (pv 0) (pa_cons pe_int pa_nil)))) (pe_op op_sub pe_int (pe_op op_mul pe_int (pe_rdy R_l_take hr (by decide) (by rfl) (pa_cons (pv 0) (pa_cons pe_int pa_nil))))))))
      pss_nil)
      (pss_one (ps_ret (pe_op op_sub (pe_rdy R_l_take hr (by decide) (by rfl) (pa_cons (pv 0) (pa_cons pe_int pa_nil))) pe_int)))))), ?_⟩
    refine ⟨_, rfl, p, 8, _, rfl, bg, by omega, by omega, by omega, fun k H1 k0 k1 bg1 bt1 => ?_⟩
    refine ⟨_, rfl, rfl, _, rfl, ?_⟩
    refine ite2 (fun c1 => ?_) (fun c1 => ?_)
    · refine ⟨_, rfl, _, _, rfl, rfl, ⟨by decide, by decide, by decide⟩, _, _, rfl, rfl, .inl ⟨by decide, by decide⟩, _, _, rfl, rfl, p, 2000000000000000000000000000001, _, rfl, bg1, by omega, by omega, by omega, fun r H2 r0 r1 bg2 bt2 => ⟨_, _, rfl, rfl, ⟨by decide, by decide, by decide⟩, _, _, rfl, rfl, ?_⟩⟩
      exact q (r - 1000000000000000000000000000000) H2 (by omega) (by omega) (bg2.mono (by omega)) (bt1.trans bt2)
    · refine ⟨_, rfl, rfl, _, rfl, ?_⟩
      refine ite2 (fun c2 => ?_) (fun c2 => ?_)
      · refine ⟨_, _, rfl, rfl, ⟨by decide, by decide, by decide⟩, _, rfl, p, 3, _, rfl, bg1, by omega, by omega, by omega, fun a H2 a0 a1 bg2 bt2 => ⟨_, _, rfl, rfl, ?_⟩⟩
        refine ⟨_, rfl, p, 2, _, rfl, bg2, by omega, by omega, by omega, fun b H3 b0 b1 bg3 bt3 => ⟨_, _, rfl, rfl, .inl ⟨by decide, by decide⟩, _, _, rfl, rfl, _, _, rfl, rfl, .inr ⟨by omega, by omega⟩, ?_⟩⟩
        refine q ((1000000000000000000000000000000 - a) * (1 - 2 * b)) H3 ?_ ?_ (bg3.mono (by omega)) ((bt1.trans bt2).trans bt3)
        · have : b = 0 ∨ b = 1 := by omega
          rcases this with h | h <;> subst h <;> omega
        · have : b = 0 ∨ b = 1 := by omega
          rcases this with h | h <;> subst h <;> omega
      · refine ⟨_, rfl, p, 15, _, rfl, bg1, by omega, by omega, by omega, fun r H2 r0 r1 bg2 bt2 => ⟨_, _, rfl, rfl, ?_⟩⟩
        exact q (r - 7) H2 (by omega) (by omega) (bg2.mono (by omega)) (bt1.trans bt2)
end
/-! _law_odd_ends -/
abbrev s_l_odd_ends : Stmt := topS 17
abbrev sc_l_odd_ends_N : List Str := ["_law_bag_here", "_law_menu"]
theorem sc_l_odd_ends : FnScope sc_l_odd_ends_N ["_law_bag_here"] (defScope s_l_odd_ends) := ⟨rfl, rfl, rfl, by decide +kernel, rfl, by decide +kernel, by decide +kernel⟩
def sp_l_odd_ends (K : PySem.W.Frag) : Sp := fun vs H Q _ => ∃ (p : Addr) (c : Int), vs = [.ref p] ∧ BagAt H p c ∧ c ≤ 1000000 ∧ ∀ v d H', (∀ H'', Kp p H' H'' → Dp K H'' v d) → OkD d → isEnds d = false → BagAt H' p (c + 1) → Kp p H H' → Q v H'
section
variable {P : Program} {w : World} {K : PySem.W.Frag} {mg : Str → Option Value} {bh : Heap}
theorem ok_l_odd_ends {f : Addr} {fd : FuncData} {f_l_take : Addr} {fd_l_take : FuncData} (B : Blt mg) (T : Txt K mg) (R_l_take : Rdy P w K mg bh "_law_take" 1 ["_law_bag_here", "_law_many"] (sp_l_take K) f_l_take fd_l_take) (F : Fun K "_law_odd_ends" "_law_odd_ends" s_l_odd_ends f fd) : FnOk P w K mg bh CX0 2 f fd ["_law_bag_here"] (sp_l_odd_ends K) := by
  refine F.ok sc_l_odd_ends (fun vs H Q E h => ?_) (fun cdv A outer s H vs Q E hr h => ?_)
  · obtain ⟨p, c, rfl, _⟩ := h
    rfl
  · obtain ⟨p, c, rfl, bg, hc, q⟩ := h
    refine ⟨_, (pss_cons (ps_set (i := 1) sc_l_odd_ends.nd rfl (Or.inl rfl) (pe_lst (pa_cons pe_non (pa_cons pe_bl (pa_cons pe_bl (pa_cons pe_int (pa_cons pe_str (pa_cons pe_str (pa_cons pe_str (pa_cons pe_str (pa_cons (pe_tup (pa_cons pe_str pa_nil)) (pa_cons (pe_lst (pa_cons pe_str pa_nil)) (pa_cons pe_str (pa_cons pe_str (pa_cons (pe_op op_pow pe_int pe_int) (pa_cons pe_str pa_nil))))))))))))))))
      (pss_one (ps_ret (pe_ix ix_list (pv 1) (pe_rdy R_l_take hr (by decide) (by rfl) (pa_cons (pv 0) (pa_cons (pe_callB call_len_seq (by rfl) B.b_len (by decide +kernel) (pa_cons (pv 1) pa_nil)) pa_nil))) (fun _ _ => rfl))))), ?_⟩
    refine ⟨(by show 1 ≤ sizeLine; decide), fun T nT => ?_⟩
    have sT := Same.new (o := .tup [V.str "half"]) nT
    refine ⟨(by show 1 ≤ sizeLine; decide), fun L nL => ?_⟩
    have sL := Same.new (o := .lst [V.str "shut"]) nL
    refine ⟨_, _, rfl, rfl, ⟨by decide, by decide, by decide⟩, (by show 14 ≤ sizeLine; decide), fun M nM => ?_⟩
    have hT3 : (upd (upd (upd H T (.tup [V.str "half"])) L (.lst [V.str "shut"])) M (.lst [.non, .bl true, .bl false, .int 0, .str "", .str "HALF", .str "half ", .str "closed", .ref T, .ref L, .str "halfshut", .str "s", .int 10000000000000000000000000000000, .str "open"])) T = some (.tup [V.str "half"]) := Same.new nM _ _ (sL _ _ upd_same)
    have hL3 : (upd (upd (upd H T (.tup [V.str "half"])) L (.lst [V.str "shut"])) M (.lst [.non, .bl true, .bl false, .int 0, .str "", .str "HALF", .str "half ", .str "closed", .ref T, .ref L, .str "halfshut", .str "s", .int 10000000000000000000000000000000, .str "open"])) L = some (.lst [V.str "shut"]) := Same.new nM _ _ upd_same
    have hM3 : (upd (upd (upd H T (.tup [V.str "half"])) L (.lst [V.str "shut"])) M (.lst [.non, .bl true, .bl false, .int 0, .str "", .str "HALF", .str "half ", .str "closed", .ref T, .ref L, .str "halfshut", .str "s", .int 10000000000000000000000000000000, .str "open"])) M = some (.lst [.non, .bl true, .bl false, .int 0, .str "", .str "HALF", .str "half ", .str "closed", .ref T, .ref L, .str "halfshut", .str "s", .int 10000000000000000000000000000000, .str "open"]) := upd_same
    have s3 : Same H (upd (upd (upd H T (.tup [V.str "half"])) L (.lst [V.str "shut"])) M (.lst [.non, .bl true, .bl false, .int 0, .str "", .str "HALF", .str "half ", .str "closed", .ref T, .ref L, .str "halfshut", .str "s", .int 10000000000000000000000000000000, .str "open"])) := sT.trans (sL.trans (Same.new nM))
    refine ⟨_, rfl, _, rfl, _, rfl, M, _, rfl, .inl (SqL.hp upd_same), p, 14, _, rfl, bg.same s3, by omega, by omega, by omega, fun k H4 k0 k1 bg4 bt4 => ?_⟩
    have bg3 := bg.same s3
    have nT4 : T ≠ p := bag_not_tup bg3 hT3
    have nL4 : L ≠ p := fun z => by subst z; obtain ⟨b0, b1, b2, b3, e, _⟩ := bg3; rw [e] at hL3; cases hL3
    have nM4 : M ≠ p := fun z => by subst z; obtain ⟨b0, b1, b2, b3, e, _⟩ := bg3; rw [e] at hM3; cases hM3
    have hT4 := (bt4 T nT4).trans hT3
    have hL4 := (bt4 L nL4).trans hL3
    have hM4 := (bt4 M nM4).trans hM3
    have kp4 : Kp p H H4 := (Kp.same s3).trans bt4.kp
    have ok : ∀ d : PyData, d.showable = true ∧ d.hasDict = false ∧ d.depth ≤ 60 ∧ d.shown.length ≤ sizeLine ∧ PyData.canLay0 d = true ∧ PyData.canLay0 (.str d.shown) = true → OkD d := fun d ⟨a, b, c, d, e, f⟩ => ⟨a, b, c, d, e, f⟩
    have cs : k = 0 ∨ k = 1 ∨ k = 2 ∨ k = 3 ∨ k = 4 ∨ k = 5 ∨ k = 6 ∨ k = 7 ∨ k = 8 ∨ k = 9 ∨ k = 10 ∨ k = 11 ∨ k = 12 ∨ k = 13 := by omega
    rcases cs with rfl | rfl | rfl | rfl | rfl | rfl | rfl | rfl | rfl | rfl | rfl | rfl | rfl | rfl
    · exact ⟨M, _, _, _, rfl, rfl, SqL.hp hM4, rfl, q _ .none H4 (fun _ _ => .non) (ok _ (by decide +kernel)) (by decide +kernel) bg4 kp4⟩
    · exact ⟨M, _, _, _, rfl, rfl, SqL.hp hM4, rfl, q _ (.bool true) H4 (fun _ _ => .bl _) (ok _ (by decide +kernel)) (by decide +kernel) bg4 kp4⟩
    · exact ⟨M, _, _, _, rfl, rfl, SqL.hp hM4, rfl, q _ (.bool false) H4 (fun _ _ => .bl _) (ok _ (by decide +kernel)) (by decide +kernel) bg4 kp4⟩
    · exact ⟨M, _, _, _, rfl, rfl, SqL.hp hM4, rfl, q _ (.int 0) H4 (fun _ _ => .int _) (ok _ (by decide +kernel)) (by decide +kernel) bg4 kp4⟩
    · exact ⟨M, _, _, _, rfl, rfl, SqL.hp hM4, rfl, q _ (.str "") H4 (fun _ _ => .str _) (ok _ (by decide +kernel)) (by decide +kernel) bg4 kp4⟩
    · exact ⟨M, _, _, _, rfl, rfl, SqL.hp hM4, rfl, q _ (.str "HALF") H4 (fun _ _ => .str _) (ok _ (by decide +kernel)) (by decide +kernel) bg4 kp4⟩
    · exact ⟨M, _, _, _, rfl, rfl, SqL.hp hM4, rfl, q _ (.str "half ") H4 (fun _ _ => .str _) (ok _ (by decide +kernel)) (by decide +kernel) bg4 kp4⟩
    · exact ⟨M, _, _, _, rfl, rfl, SqL.hp hM4, rfl, q _ (.str "closed") H4 (fun _ _ => .str _) (ok _ (by decide +kernel)) (by decide +kernel) bg4 kp4⟩
    · exact ⟨M, _, _, _, rfl, rfl, SqL.hp hM4, rfl, q _ (.tuple [.str "half"]) H4 (fun _ kk => .tup (SqT.hp (kk _ _ nT4 hT4)) (.cons (.str _) .nil)) (ok _ (by decide +kernel)) (by decide +kernel) bg4 kp4⟩
    · exact ⟨M, _, _, _, rfl, rfl, SqL.hp hM4, rfl, q _ (.list [.str "shut"]) H4 (fun _ kk => .lst (SqL.hp (kk _ _ nL4 hL4)) (.cons (.str _) .nil)) (ok _ (by decide +kernel)) (by decide +kernel) bg4 kp4⟩
    · exact ⟨M, _, _, _, rfl, rfl, SqL.hp hM4, rfl, q _ (.str "halfshut") H4 (fun _ _ => .str _) (ok _ (by decide +kernel)) (by decide +kernel) bg4 kp4⟩
    · exact ⟨M, _, _, _, rfl, rfl, SqL.hp hM4, rfl, q _ (.str "s") H4 (fun _ _ => .str _) (ok _ (by decide +kernel)) (by decide +kernel) bg4 kp4⟩
    · exact ⟨M, _, _, _, rfl, rfl, SqL.hp hM4, rfl, q _ (.int 10000000000000000000000000000000) H4 (fun _ _ => .int _) (ok _ (by decide +kernel)) (by decide +kernel) bg4 kp4⟩
    · exact ⟨M, _, _, _, rfl, rfl, SqL.hp hM4, rfl, q _ (.str "open") H4 (fun _ _ => .str _) (ok _ (by decide +kernel)) (by decide +kernel) bg4 kp4⟩
end
/-! _law_holds -/
abbrev s_l_holds : Stmt := topS 18
abbrev sc_l_holds_N : List Str := ["_law_couple", "_law_when", "_law_mode"]
theorem sc_l_holds : FnScope sc_l_holds_N ["_law_couple", "_law_when", "_law_mode"] (defScope s_l_holds) := ⟨rfl, rfl, rfl, by decide +kernel, rfl, by decide +kernel, by decide +kernel⟩
def sp_l_holds (K : PySem.W.Frag) : Sp := fun vs H Q _ => ∃ (t : Addr) (b e i : Int) (z : Bool), vs = [.ref t, .int i, endsV z] ∧ SqT K H t [.int b, .int e] ∧ Q (.bl (holdsB z (b, e) i)) H
section
variable {P : Program} {w : World} {K : PySem.W.Frag} {mg : Str → Option Value} {bh : Heap}
theorem ok_l_holds {f : Addr} {fd : FuncData}  (B : Blt mg) (T : Txt K mg)  (F : Fun K "_law_holds" "_law_holds" s_l_holds f fd) : FnOk P w K mg bh CX0 1 f fd ["_law_couple", "_law_when", "_law_mode"] (sp_l_holds K) := by
  refine F.ok sc_l_holds (fun vs H Q E h => ?_) (fun cdv A outer s H vs Q E hr h => ?_)
  · obtain ⟨t, b, e, i, z, rfl, _⟩ := h
    rfl
  · obtain ⟨t, b, e, i, z, rfl, sq, q⟩ := h
    refine ⟨_, (pss_one (ps_ret (pe_or (pe_chain op_le op_lt (pe_ix ix_tup (pv 0) pe_int (fun _ _ => rfl)) (pv 1) (pe_ix ix_tup (pv 0) pe_int (fun _ _ => rfl))) (pe_one (pe_and (pe_cmpR op_eq (pv 2) pe_str (nomark _)) (pe_one (pe_chain op_le op_eq (pe_ix ix_tup (pv 0) pe_int (fun _ _ => rfl)) (pv 1) (pe_ix ix_tup (pv 0) pe_int (fun _ _ => rfl))))))))), ?_⟩
    have fin : ∀ r, holdsB z (b, e) i = r → Q (.bl r) H := fun r h => h ▸ q
    refine ⟨_, rfl, t, _, 0, _, rfl, rfl, sq, rfl, _, rfl, _, _, rfl, rfl, _, rfl, ?_⟩
    refine ite2 (fun c1 => ?_) (fun c1 => ?_)
    · refine ⟨_, rfl, t, _, 1, _, rfl, rfl, sq, rfl, _, _, rfl, rfl, _, rfl, ?_⟩
      refine ite2 (fun c2 => ?_) (fun c2 => ?_)
      · refine fin _ ?_
        simp only [decide_eq_true_eq] at *
        rw [Bool.eq_iff_iff]
        cases z <;> simp only [holdsB, Bool.and_eq_true, decide_eq_true_eq, Bool.false_eq_true, if_false, if_true, iff_true] <;> omega
      · skip
        refine ⟨_, rfl, endsV_scal z, _, rfl, ?_⟩
        rw [endsV_shut]
        cases z with
        | true =>
          refine iteT ⟨_, rfl, t, _, 0, _, rfl, rfl, sq, rfl, _, rfl, _, _, rfl, rfl, _, rfl, ?_⟩
          refine ite2 (fun d1 => ?_) (fun d1 => ?_)
          · refine ⟨_, rfl, t, _, 1, _, rfl, rfl, sq, rfl, rfl, fin _ ?_⟩
            simp only [decide_eq_true_eq] at *
            rw [Bool.eq_iff_iff]
            simp only [holdsB, Bool.and_eq_true, decide_eq_true_eq, V.int.injEq, if_true]
            omega
          · refine fin _ ?_
            simp only [decide_eq_true_eq] at *
            rw [Bool.eq_iff_iff]
            simp only [holdsB, Bool.and_eq_true, decide_eq_true_eq, if_true]
            simp; omega
        | false =>
          refine iteF (fin _ ?_)
          show (decide (b ≤ i) && decide (i < e)) = false
          simp only [Bool.and_eq_false_iff, decide_eq_false_iff_not]
          simp only [decide_eq_true_eq] at *
          omega
    · refine ⟨_, rfl, iteF ?_⟩
      refine ⟨_, rfl, endsV_scal z, _, rfl, ?_⟩
      rw [endsV_shut]
      cases z with
      | true =>
        refine iteT ⟨_, rfl, t, _, 0, _, rfl, rfl, sq, rfl, _, rfl, _, _, rfl, rfl, _, rfl, ?_⟩
        refine ite2 (fun d1 => ?_) (fun d1 => ?_)
        · refine ⟨_, rfl, t, _, 1, _, rfl, rfl, sq, rfl, rfl, fin _ ?_⟩
          simp only [decide_eq_true_eq] at *
          rw [Bool.eq_iff_iff]
          simp only [holdsB, Bool.and_eq_true, decide_eq_true_eq, V.int.injEq, if_true]
          omega
        · refine fin _ ?_
          simp only [decide_eq_true_eq] at *
          rw [Bool.eq_iff_iff]
          simp only [holdsB, Bool.and_eq_true, decide_eq_true_eq, if_true]
          simp; omega
      | false =>
        refine iteF (fin _ ?_)
        show (decide (b ≤ i) && decide (i < e)) = false
        simp only [Bool.and_eq_false_iff, decide_eq_false_iff_not]
        simp only [decide_eq_true_eq] at *
        omega
end
/-! _law_any_edge -/
abbrev s_l_any_edge : Stmt := topS 19
abbrev sc_l_any_edge_N : List Str := ["_law_bag_here", "_law_kind"]
theorem sc_l_any_edge : FnScope sc_l_any_edge_N ["_law_bag_here"] (defScope s_l_any_edge) := ⟨rfl, rfl, rfl, by decide +kernel, rfl, by decide +kernel, by decide +kernel⟩
def sp_l_any_edge (K : PySem.W.Frag) : Sp := fun vs H Q _ => ∃ (p : Addr) (c : Int), vs = [.ref p] ∧ BagAt H p c ∧ c ≤ 900000 ∧ ∀ r H', -10000000000000000000000000000000 ≤ r → r ≤ 10000000000000000000000000000000 → BagAt H' p (c + 4) → But p H H' → Q (.int r) H'
section
variable {P : Program} {w : World} {K : PySem.W.Frag} {mg : Str → Option Value} {bh : Heap}
theorem ok_l_any_edge {f : Addr} {fd : FuncData} {f_l_take : Addr} {fd_l_take : FuncData} {f_l_edge : Addr} {fd_l_edge : FuncData} (B : Blt mg) (T : Txt K mg) (R_l_take : Rdy P w K mg bh "_law_take" 1 ["_law_bag_here", "_law_many"] (sp_l_take K) f_l_take fd_l_take) (R_l_edge : Rdy P w K mg bh "_law_edge" 2 ["_law_bag_here"] (sp_l_edge K) f_l_edge fd_l_edge) (F : Fun K "_law_any_edge" "_law_any_edge" s_l_any_edge f fd) : FnOk P w K mg bh CX0 3 f fd ["_law_bag_here"] (sp_l_any_edge K) := by
  refine F.ok sc_l_any_edge (fun vs H Q E h => ?_) (fun cdv A outer s H vs Q E hr h => ?_)
  · obtain ⟨p, c, rfl, _⟩ := h
    rfl
  · obtain ⟨p, c, rfl, bg, hc, q⟩ := h
    refine ⟨_, (pss_cons (ps_set (i := 1) sc_l_any_edge.nd rfl (Or.inl rfl) (pe_rdy R_l_take hr (by decide) (by rfl) (pa_cons (pv 0) (pa_cons pe_int pa_nil))))
      (pss_cons (ps_if (pt_cmpR op_eq (pv 1) pe_int (nomark _))
      (pss_one (ps_ret (pe_un un_neg (pe_op op_pow pe_int pe_int))))
      pss_nil)
      (pss_one (ps_ret (pe_ifExp (pt_cmpR op_eq (pv 1) pe_int (nomark _)) (pe_op op_pow pe_int pe_int) (pe_rdy R_l_edge hr (by decide) (by rfl) (pa_cons (pv 0) pa_nil))))))), ?_⟩
    refine ⟨_, rfl, p, 6, _, rfl, bg, by omega, by omega, by omega, fun k H1 k0 k1 bg1 bt1 => ?_⟩
    refine ⟨_, rfl, rfl, _, rfl, ?_⟩
    refine ite2 (fun c1 => ?_) (fun c1 => ?_)
    · exact ⟨_, _, rfl, rfl, ⟨by decide, by decide, by decide⟩, _, rfl, q (-10000000000000000000000000000000) H1 (by omega) (by omega) (bg1.mono (by omega)) bt1⟩
    · refine ⟨_, rfl, rfl, _, rfl, ?_⟩
      refine ite2 (fun c2 => ?_) (fun c2 => ?_)
      · exact ⟨_, _, rfl, rfl, ⟨by decide, by decide, by decide⟩, q 10000000000000000000000000000000 H1 (by omega) (by omega) (bg1.mono (by omega)) bt1⟩
      · exact ⟨_, rfl, p, _, rfl, bg1, by omega, fun r H2 r0 r1 bg2 bt2 => q r H2 (by omega) (by omega) (bg2.mono (by omega)) (bt1.trans bt2)⟩
end
/-! _law_some_moment -/
abbrev s_l_some_moment : Stmt := topS 20
abbrev sc_l_some_moment_N : List Str := ["_law_bag_here", "_law_couple", "_law_kind", "_law_menu"]
theorem sc_l_some_moment : FnScope sc_l_some_moment_N ["_law_bag_here", "_law_couple"] (defScope s_l_some_moment) := ⟨rfl, rfl, rfl, by decide +kernel, rfl, by decide +kernel, by decide +kernel⟩
def sp_l_some_moment (K : PySem.W.Frag) : Sp := fun vs H Q _ => ∃ (p t : Addr) (b e c : Int), vs = [.ref p, .ref t] ∧ BagAt H p c ∧ c ≤ 800000 ∧ H t = some (.tup [.int b, .int e]) ∧ -10000000000000000000000000000000 ≤ b ∧ b ≤ 10000000000000000000000000000000 ∧ -10000000000000000000000000000000 ≤ e ∧ e ≤ 10000000000000000000000000000000 ∧ ∀ v d H', Dp K H' v d → OkD d → BagAt H' p (c + 6) → Kp p H H' → Q v H'
section
variable {P : Program} {w : World} {K : PySem.W.Frag} {mg : Str → Option Value} {bh : Heap}
theorem ok_l_some_moment {f : Addr} {fd : FuncData} {f_l_take : Addr} {fd_l_take : FuncData} {f_l_any_edge : Addr} {fd_l_any_edge : FuncData} (B : Blt mg) (T : Txt K mg) (R_l_take : Rdy P w K mg bh "_law_take" 1 ["_law_bag_here", "_law_many"] (sp_l_take K) f_l_take fd_l_take) (R_l_any_edge : Rdy P w K mg bh "_law_any_edge" 3 ["_law_bag_here"] (sp_l_any_edge K) f_l_any_edge fd_l_any_edge) (F : Fun K "_law_some_moment" "_law_some_moment" s_l_some_moment f fd) : FnOk P w K mg bh CX0 4 f fd ["_law_bag_here", "_law_couple"] (sp_l_some_moment K) := by
  refine F.ok sc_l_some_moment (fun vs H Q E h => ?_) (fun cdv A outer s H vs Q E hr h => ?_)
  · obtain ⟨p, t, b, e, c, rfl, _⟩ := h
    rfl
  · obtain ⟨p, t, b, e, c, rfl, bg, hc, ht, b0, b1, e0, e1, q⟩ := h
    refine ⟨_, (pss_cons (ps_set (i := 2) sc_l_some_moment.nd rfl (Or.inl rfl) (pe_rdy R_l_take hr (by decide) (by rfl) (pa_cons (pv 0) (pa_cons pe_int pa_nil))))
      (pss_cons (ps_if (pt_cmpR op_eq (pv 2) pe_int (nomark _))
      (pss_cons (ps_set (i := 3) sc_l_some_moment.nd rfl (Or.inl rfl) (pe_lst (pa_cons pe_non (pa_cons pe_bl (pa_cons pe_bl (pa_cons pe_str (pa_cons (pe_tup pa_nil) (pa_cons (pe_tup (pa_cons pe_int pa_nil)) (pa_cons (pe_lst (pa_cons pe_int pa_nil)) (pa_cons (pe_op op_pow pe_int pe_int) (pa_cons (pe_un un_neg (pe_op op_pow pe_int pe_int)) (pa_cons (pe_op op_pow pe_int pe_int) (pa_cons (pe_op op_sub (pe_un un_neg (pe_op op_pow pe_int pe_int)) pe_int) pa_nil)))))))))))))
      (pss_one (ps_ret (pe_ix ix_list (pv 3) (pe_rdy R_l_take hr (by decide) (by rfl) (pa_cons (pv 0) (pa_cons (pe_callB call_len_seq (by rfl) B.b_len (by decide +kernel) (pa_cons (pv 3) pa_nil)) pa_nil))) (fun _ _ => rfl)))))
      pss_nil)
      (pss_cons (ps_if (pt_cmpR op_eq (pv 2) pe_int (nomark _))
      (pss_one (ps_ret (pe_rdy R_l_any_edge hr (by decide) (by rfl) (pa_cons (pv 0) pa_nil))))
      pss_nil)
      (pss_one (ps_ret (pe_op op_sub (pe_op op_add (pe_ix ix_tup (pv 1) (pe_rdy R_l_take hr (by decide) (by rfl) (pa_cons (pv 0) (pa_cons pe_int pa_nil))) (fun _ _ => rfl)) (pe_rdy R_l_take hr (by decide) (by rfl) (pa_cons (pv 0) (pa_cons pe_int pa_nil)))) pe_int)))))), ?_⟩
    have ntp : t ≠ p := bag_not_tup bg ht
    refine ⟨_, rfl, p, 6, _, rfl, bg, by omega, by omega, by omega, fun k H1 k0 k1 bg1 bt1 => ?_⟩
    have ht1 := (bt1 t ntp).trans ht
    refine ⟨_, rfl, rfl, _, rfl, ?_⟩
    refine ite2 (fun c1 => ?_) (fun c1 => ?_)
    · refine ⟨Nat.zero_le _, fun T0 n0 => ⟨(by show 1 ≤ sizeLine; decide), fun T1 n1 => ⟨(by show 1 ≤ sizeLine; decide), fun L1 n2 => ?_⟩⟩⟩
      refine ⟨_, _, rfl, rfl, ⟨by decide, by decide, by decide⟩, _, _, rfl, rfl, ⟨by decide, by decide, by decide⟩, _, rfl, _, _, rfl, rfl, ⟨by decide, by decide, by decide⟩, _, _, rfl, rfl, ⟨by decide, by decide, by decide⟩, _, rfl, _, _, rfl, rfl, (by show 11 ≤ sizeLine; decide), fun M n3 => ?_⟩
      have s1 := Same.new (o := .tup []) n0
      have s2 := Same.new (o := .tup [V.int 0]) n1
      have s3 := Same.new (o := .lst [V.int 1]) n2
      have s4 := Same.new (o := .lst [.non, .bl true, .bl false, .str "0", .ref T0, .ref T1, .ref L1, .int 10000000000000000000000000000000, .int (-10000000000000000000000000000000), .int (10 * 10000000000000000000000000000000), .int (-10000000000000000000000000000000 - 1)]) n3
      have hT0 : (upd (upd (upd (upd H1 T0 (.tup [])) T1 (.tup [V.int 0])) L1 (.lst [V.int 1])) M (.lst [.non, .bl true, .bl false, .str "0", .ref T0, .ref T1, .ref L1, .int 10000000000000000000000000000000, .int (-10000000000000000000000000000000), .int (10 * 10000000000000000000000000000000), .int (-10000000000000000000000000000000 - 1)])) T0 = some (.tup []) := s4 _ _ (s3 _ _ (s2 _ _ upd_same))
      have hT1 : (upd (upd (upd (upd H1 T0 (.tup [])) T1 (.tup [V.int 0])) L1 (.lst [V.int 1])) M (.lst [.non, .bl true, .bl false, .str "0", .ref T0, .ref T1, .ref L1, .int 10000000000000000000000000000000, .int (-10000000000000000000000000000000), .int (10 * 10000000000000000000000000000000), .int (-10000000000000000000000000000000 - 1)])) T1 = some (.tup [V.int 0]) := s4 _ _ (s3 _ _ upd_same)
      have hL1 : (upd (upd (upd (upd H1 T0 (.tup [])) T1 (.tup [V.int 0])) L1 (.lst [V.int 1])) M (.lst [.non, .bl true, .bl false, .str "0", .ref T0, .ref T1, .ref L1, .int 10000000000000000000000000000000, .int (-10000000000000000000000000000000), .int (10 * 10000000000000000000000000000000), .int (-10000000000000000000000000000000 - 1)])) L1 = some (.lst [V.int 1]) := s4 _ _ upd_same
      have hM : (upd (upd (upd (upd H1 T0 (.tup [])) T1 (.tup [V.int 0])) L1 (.lst [V.int 1])) M (.lst [.non, .bl true, .bl false, .str "0", .ref T0, .ref T1, .ref L1, .int 10000000000000000000000000000000, .int (-10000000000000000000000000000000), .int (10 * 10000000000000000000000000000000), .int (-10000000000000000000000000000000 - 1)])) M = some (.lst [.non, .bl true, .bl false, .str "0", .ref T0, .ref T1, .ref L1, .int 10000000000000000000000000000000, .int (-10000000000000000000000000000000), .int (10 * 10000000000000000000000000000000), .int (-10000000000000000000000000000000 - 1)]) := upd_same
      have sA : Same H1 (upd (upd (upd (upd H1 T0 (.tup [])) T1 (.tup [V.int 0])) L1 (.lst [V.int 1])) M (.lst [.non, .bl true, .bl false, .str "0", .ref T0, .ref T1, .ref L1, .int 10000000000000000000000000000000, .int (-10000000000000000000000000000000), .int (10 * 10000000000000000000000000000000), .int (-10000000000000000000000000000000 - 1)])) := s1.trans (s2.trans (s3.trans s4))
      have bgA := bg1.same sA
      refine ⟨_, rfl, _, rfl, _, rfl, M, _, rfl, .inl (SqL.hp upd_same), p, 11, _, rfl, bgA, by omega, by omega, by omega, fun k2 H4 k20 k21 bg4 bt4 => ?_⟩
      have nT0 : T0 ≠ p := bag_not_tup bgA hT0
      have nT1 : T1 ≠ p := bag_not_tup bgA hT1
      have nL1 : L1 ≠ p := fun z => by subst z; obtain ⟨x0, x1, x2, x3, ex, _⟩ := bgA; rw [ex] at hL1; cases hL1
      have nM : M ≠ p := fun z => by subst z; obtain ⟨x0, x1, x2, x3, ex, _⟩ := bgA; rw [ex] at hM; cases hM
      have hT04 := (bt4 T0 nT0).trans hT0
      have hT14 := (bt4 T1 nT1).trans hT1
      have hL14 := (bt4 L1 nL1).trans hL1
      have hM4 := (bt4 M nM).trans hM
      have kp4 : Kp p H H4 := bt1.kp.trans ((Kp.same sA).trans bt4.kp)
      have bgf : BagAt H4 p (c + 6) := bg4.mono (by omega)
      have ok : ∀ d : PyData, d.showable = true ∧ d.hasDict = false ∧ d.depth ≤ 60 ∧ d.shown.length ≤ sizeLine ∧ PyData.canLay0 d = true ∧ PyData.canLay0 (.str d.shown) = true → OkD d := fun d ⟨a, b, c, d, e, f⟩ => ⟨a, b, c, d, e, f⟩
      have cs : k2 = 0 ∨ k2 = 1 ∨ k2 = 2 ∨ k2 = 3 ∨ k2 = 4 ∨ k2 = 5 ∨ k2 = 6 ∨ k2 = 7 ∨ k2 = 8 ∨ k2 = 9 ∨ k2 = 10 := by omega
      rcases cs with rfl | rfl | rfl | rfl | rfl | rfl | rfl | rfl | rfl | rfl | rfl
      · exact ⟨M, _, _, _, rfl, rfl, SqL.hp hM4, rfl, q _ .none H4 .non (ok _ (by decide +kernel)) bgf kp4⟩
      · exact ⟨M, _, _, _, rfl, rfl, SqL.hp hM4, rfl, q _ (.bool true) H4 (.bl _) (ok _ (by decide +kernel)) bgf kp4⟩
      · exact ⟨M, _, _, _, rfl, rfl, SqL.hp hM4, rfl, q _ (.bool false) H4 (.bl _) (ok _ (by decide +kernel)) bgf kp4⟩
      · exact ⟨M, _, _, _, rfl, rfl, SqL.hp hM4, rfl, q _ (.str "0") H4 (.str _) (ok _ (by decide +kernel)) bgf kp4⟩
      · exact ⟨M, _, _, _, rfl, rfl, SqL.hp hM4, rfl, q _ (.tuple []) H4 (.tup (SqT.hp hT04) .nil) (ok _ (by decide +kernel)) bgf kp4⟩
      · exact ⟨M, _, _, _, rfl, rfl, SqL.hp hM4, rfl, q _ (.tuple [.int 0]) H4 (.tup (SqT.hp hT14) (.cons (.int _) .nil)) (ok _ (by decide +kernel)) bgf kp4⟩
      · exact ⟨M, _, _, _, rfl, rfl, SqL.hp hM4, rfl, q _ (.list [.int 1]) H4 (.lst (SqL.hp hL14) (.cons (.int _) .nil)) (ok _ (by decide +kernel)) bgf kp4⟩
      · exact ⟨M, _, _, _, rfl, rfl, SqL.hp hM4, rfl, q _ (.int 10000000000000000000000000000000) H4 (.int _) (okD_int (log_of (by omega) (by omega))) bgf kp4⟩
      · exact ⟨M, _, _, _, rfl, rfl, SqL.hp hM4, rfl, q _ (.int (-10000000000000000000000000000000)) H4 (.int _) (okD_int (log_of (by omega) (by omega))) bgf kp4⟩
      · exact ⟨M, _, _, _, rfl, rfl, SqL.hp hM4, rfl, q _ (.int (10 * 10000000000000000000000000000000)) H4 (.int _) (okD_int (log_of (by omega) (by omega))) bgf kp4⟩
      · exact ⟨M, _, _, _, rfl, rfl, SqL.hp hM4, rfl, q _ (.int (-10000000000000000000000000000000 - 1)) H4 (.int _) (okD_int (log_of (by omega) (by omega))) bgf kp4⟩
    · refine ⟨_, rfl, rfl, _, rfl, ?_⟩
      refine ite2 (fun c2 => ?_) (fun c2 => ?_)
      · exact ⟨_, rfl, p, _, rfl, bg1, by omega, fun r H2 r0 r1 bg2 bt2 => q _ (.int r) H2 (.int _) (okD_int (log_of (by omega) (by omega))) (bg2.mono (by omega)) (bt1.trans bt2).kp⟩
      · refine ⟨_, rfl, _, rfl, p, 2, _, rfl, bg1, by omega, by omega, by omega, fun j H2 j0 j1 bg2 bt2 => ?_⟩
        have ht2 := (bt2 t ntp).trans ht1
        have cs : j = 0 ∨ j = 1 := by omega
        rcases cs with rfl | rfl
        · refine ⟨t, _, _, _, rfl, rfl, SqT.hp ht2, rfl, _, rfl, p, 3, _, rfl, bg2, by omega, by omega, by omega, fun a H3 a0 a1 bg3 bt3 => ⟨_, _, rfl, rfl, _, _, rfl, rfl, ?_⟩⟩
          exact q _ (.int _) H3 (.int _) (okD_int (log_of (by omega) (by omega))) (bg3.mono (by omega)) ((bt1.trans bt2).trans bt3).kp
        · refine ⟨t, _, _, _, rfl, rfl, SqT.hp ht2, rfl, _, rfl, p, 3, _, rfl, bg2, by omega, by omega, by omega, fun a H3 a0 a1 bg3 bt3 => ⟨_, _, rfl, rfl, _, _, rfl, rfl, ?_⟩⟩
          exact q _ (.int _) H3 (.int _) (okD_int (log_of (by omega) (by omega))) (bg3.mono (by omega)) ((bt1.trans bt2).trans bt3).kp
end
/-! _law_is_moment -/
abbrev s_l_is_moment : Stmt := topS 21
abbrev sc_l_is_moment_N : List Str := ["_law_thing"]
theorem sc_l_is_moment : FnScope sc_l_is_moment_N ["_law_thing"] (defScope s_l_is_moment) := ⟨rfl, rfl, rfl, by decide +kernel, rfl, by decide +kernel, by decide +kernel⟩
def sp_l_is_moment (K : PySem.W.Frag) : Sp := fun vs H Q _ => ∃ (v : V) (d : PyData), vs = [v] ∧ Dp K H v d ∧ Q (.bl (isMom d)) H
section
variable {P : Program} {w : World} {K : PySem.W.Frag} {mg : Str → Option Value} {bh : Heap}
theorem ok_l_is_moment {f : Addr} {fd : FuncData}  (B : Blt mg) (T : Txt K mg)  (F : Fun K "_law_is_moment" "_law_is_moment" s_l_is_moment f fd) : FnOk P w K mg bh CX0 1 f fd ["_law_thing"] (sp_l_is_moment K) := by
  refine F.ok sc_l_is_moment (fun vs H Q E h => ?_) (fun cdv A outer s H vs Q E hr h => ?_)
  · obtain ⟨v, d, rfl, _⟩ := h
    rfl
  · obtain ⟨v, d, rfl, dp, q⟩ := h
    refine ⟨_, (pss_one (ps_ret (pe_and (pe_callB call_isi (by rfl) B.b_isinstance (by decide +kernel) (pa_cons (pv 0) (pa_cons (pe_bltn (v := .ty "int") (by rfl) B.b_int (by decide +kernel) rfl) pa_nil))) (pe_and (pe_not (pe_callB call_isi (by rfl) B.b_isinstance (by decide +kernel) (pa_cons (pv 0) (pa_cons (pe_bltn (v := .ty "bool") (by rfl) B.b_bool (by decide +kernel) rfl) pa_nil)))) (pe_one (pe_chain op_lt op_lt (pe_un un_neg (pe_op op_pow pe_int pe_int)) (pv 0) (pe_op op_pow pe_int pe_int))))))), ?_⟩
    refine ⟨v, rfl, _, _, _, _, _, rfl, .ty _, dpTy dp, kit_ty (kitInt d), _, rfl, ?_⟩
    refine ite2 (fun c => ?_) (fun c => ?_)
    · refine ⟨v, rfl, _, _, _, _, _, rfl, .ty _, dpTy dp, kit_ty (kitBool d), _, rfl, _, rfl, ?_⟩
      refine ite2 (fun c2 => ?_) (fun c2 => ?_)
      · obtain ⟨i, rfl, rfl⟩ := int_of dp (by rw [isNum_eq, c]; simpa using c2)
        refine ⟨_, _, rfl, rfl, ⟨by decide, by decide, by decide⟩, _, rfl, _, rfl, _, _, rfl, rfl, _, rfl, ?_⟩
        refine ite2 (fun c3 => ?_) (fun c3 => ?_)
        · refine ⟨_, _, rfl, rfl, ⟨by decide, by decide, by decide⟩, _, _, rfl, rfl, ?_⟩
          have e : isMom (.int i) = decide (i < 10000000000000000000000000000000) := by show (decide (-10000000000000000000000000000000 < i) && decide (i < 10000000000000000000000000000000)) = _; rw [show decide (-10000000000000000000000000000000 < i) = true from c3, Bool.true_and]
          rw [e] at q
          exact q
        · have e : isMom (.int i) = false := by show (decide (-10000000000000000000000000000000 < i) && decide (i < 10000000000000000000000000000000)) = _; rw [show decide (-10000000000000000000000000000000 < i) = false from Bool.eq_false_iff.mpr c3, Bool.false_and]
          rw [e] at q
          exact q
      · rw [isMom_not (by rw [isNum_eq, c]; simpa using c2)] at q
        exact q
    · rw [isMom_not (by rw [isNum_eq, Bool.eq_false_iff.mpr c, Bool.false_and]; decide)] at q
      exact q
end
abbrev s_l_empty_asked : Stmt := topS 23
abbrev sc_l_empty_asked_N : List Str := ["_law_couple", "_law_mode", "_law_way", "_law_told", "e"]
theorem sc_l_empty_asked : FnScope sc_l_empty_asked_N ["_law_couple", "_law_mode", "_law_way"] (defScope s_l_empty_asked) := ⟨rfl, rfl, rfl, by decide +kernel, rfl, by decide +kernel, by decide +kernel⟩
/-- the ends that are used -/
def usedD (i : Int) (g : PyData) : PyData := if i = 2 then .str "half" else g
def sp_l_empty_asked (K : PySem.W.Frag) : Sp := fun vs H Q _ => ∃ (t : Addr) (b e : Int) (w : V) (g : PyData) (i : Int), vs = [.ref t, w, .int i] ∧ SqT K H t [.int b, .int e] ∧ Dp K H w g ∧ OkD g ∧ (i = 0 ∨ i = 1 ∨ i = 2) ∧
  (isEnds (usedD i g) = false → ∀ ta H', Same H H' → SqT K H' ta [.str "ends", .str (usedD i g).shown] → Q (.ref ta) H') ∧
  (∀ z, usedD i g = endsD z → ∀ ta H', Same H H' → SqT K H' ta [.str "told", .str (PyData.bool (emp z (b, e))).shown] → Q (.ref ta) H')
def ts_ends (K : PySem.W.Frag) (C : Addr) : Addr → Value → Option Addr → TS := fun a cls d => tRet (tTup (tCons (tC (.str "ends")) (tCons (tCB (rRepr K) (tCons (tXf a cls d C "ends" (tVar 4)) tNil)) tNil)))
def tb_ea (K : PySem.W.Frag) (C : Addr) : WX → TS := fun W => tIfS (tTest (tOp rEq (tVar 2) (tC (.int 0))))
    (tAsg (tCallS (sp_is_empty K C) (WE W) (tCons (tVar 0) (tCons (tVar 1) tNil))) (gName 3))
    (tIfS (tTest (tOp rEq (tVar 2) (tC (.int 1))))
      (tAsg (fun σ H Q => (tCons (tVar 1) (tCons (tVar 0) tNil)) σ H fun zs H2 => zs.length = 2 ∧ sp_is_empty K C zs.reverse H2 Q (WE W σ)) (gName 3))
      (tAsg (tCallSD (sp_is_empty K C) [.str "half"] (WE W) (tCons (tVar 0) tNil)) (gName 3)))
theorem dp_endsD {K : PySem.W.Frag} {H : Hp} {z : Bool} {g : PyData} (h : Dp K H (endsV z) g) : g = endsD z := by
  cases z <;> (cases h; rfl)
section
variable {P : Program} {w : World} {K : PySem.W.Frag} {mg : Str → Option Value} {bh : Heap}
theorem ok_l_empty_asked {f : Addr} {fd : FuncData} {C_BadEnds fI_BadEnds : Addr} {fdE_BadEnds : FuncData} {f_is_empty : Addr} {fd_is_empty : FuncData} (B : Blt mg) (T : Txt K mg) (E_BadEnds : ErrT P w K mg bh "BadEnds" "ends" C_BadEnds fI_BadEnds fdE_BadEnds)
    (R_is_empty : RdyXD P w K mg bh "is_empty" 4 ["pair", "ends"] [.str "half"] (sp_is_empty K C_BadEnds) f_is_empty fd_is_empty)
    (kw_is_empty : KBn K fd_is_empty ["pair", "ends"] 0 ["ends", "pair"] (fun _ ws => List.reverse ws) (fun _ zs => List.reverse zs))
    (F : Fun K "_law_empty_asked" "_law_empty_asked" s_l_empty_asked f fd) : FnG P w K mg bh 5 f fd ["_law_couple", "_law_mode", "_law_way"] (sp_l_empty_asked K) := by
  refine Fun.okG F sc_l_empty_asked (fun vs H Q E h => ?_) (fun cdv A outer s H vs Q E gd hr h => ?_)
  · obtain ⟨t, b, e, w, g, i, rfl, _⟩ := h
    rfl
  · obtain ⟨t, b, e, w, g, i, rfl, sq, dw, og, hi, q1, q2⟩ := h
    obtain ⟨ds, hd, hb1⟩ := R_is_empty.bd1
    have hu1 := Nat.lt_of_le_of_lt (Nat.add_le_add_left (by decide : 66 ≤ 200) _) (Nat.lt_of_le_of_lt (Nat.add_le_add_right (Nat.le_add_right _ _) _) hr.un)
    refine ⟨_, (pss_cons (ps_tryN (W0 := fun _ _ _ _ => False) (tb := tb_ea K C_BadEnds) (l := [⟨.ref C_BadEnds, 4, ts_ends K C_BadEnds⟩]) rfl rfl sc_l_empty_asked.nd takes0 ?_ ?_)
      (pss_one (ps_ret (pe_tup (pa_cons pe_str (pa_cons (pe_callB (call_reprD gd hr) (by rfl) B.b_repr (by decide +kernel) (pa_cons (pv 3) pa_nil)) pa_nil)))))), ?_⟩
    · intro W pn xe tk _
      exact (pss_one (ps_if (pt_cmpR op_eq (pv 2) pe_int (nomark _))
        (pss_one (ps_set (i := 3) sc_l_empty_asked.nd rfl (Or.inl rfl) (pe_callS R_is_empty.ok (hr.mono (by decide)) (by rfl) R_is_empty.gl R_is_empty.kp R_is_empty.bd (fun σ => passAt tk σ) (pa_cons (pv 0) (pa_cons (pv 1) pa_nil)))))
        (pss_one (ps_if (pt_cmpR op_eq (pv 2) pe_int (nomark _))
          (pss_one (ps_set (i := 3) sc_l_empty_asked.nd rfl (Or.inl rfl) (pe_kw0S R_is_empty.ok (hr.mono (j := 4) (by decide)) (by decide) (by rfl) R_is_empty.gl R_is_empty.kp kw_is_empty (fun σ => passAt tk σ) (pk_cons (pv 1) (pk_cons (pv 0) pk_nil)))))
          (pss_one (ps_set (i := 3) sc_l_empty_asked.nd rfl (Or.inl rfl) (pe_callSD R_is_empty.ok (hr.mono (by decide)) (by rfl) R_is_empty.gl R_is_empty.kp hb1 hd (fun σ => passAt tk σ) (pa_cons (pv 0) pa_nil))))))))
    · refine ClOk.cons rfl rfl ⟨rfl, by decide, Or.inl E_BadEnds.gC⟩ (fun a oe cls d pn hz hf => ?_) .nil
      exact pss_one (ps_ret (pe_tup (pa_cons pe_str (pa_cons (pe_callB (call_reprU gd hu1) (by rfl) B.b_repr (by decide +kernel) (pa_cons (pe_xf E_BadEnds.xf E_BadEnds.noF hz hf (pv 4)) pa_nil)) pa_nil))))
    have bad : ∀ (D : L2.Ends) (dd : Addr) (H' : Hp) (i : Int), D.rt = Q → Same H H' → H' dd = some (.xd [(("ends" : Str), w)]) → (∀ ta H', Same H H' → SqT K H' ta [.str "ends", .str g.shown] → Q (.ref ta) H') →
        wCl K (fun _ _ _ _ => False) D [⟨.ref C_BadEnds, 4, ts_ends K C_BadEnds⟩] (.ref C_BadEnds) (some dd) [some (.ref t), some w, some (.int i), none, none] H' := by
      intro D dd H' i hD s' hx q
      refine ⟨true, E_BadEnds.self, fun _ a na => ?_, fun z => nomatch z⟩
      refine ⟨.ref a, rfl, rfl, rfl, dd, _, w, rfl, hx, rfl, w, g, rfl, sameD s' g dw, og.sh, og.nd, Nat.le_trans og.dp (by decide), og.ln, (by show 2 ≤ sizeLine; decide), fun p np => ?_⟩
      show D.rt _ _
      rw [hD]
      exact q p _ (s'.trans (Same.new np)) (SqT.hp upd_same)
    have good : ∀ (z : Bool) (i : Int) (H' : Hp), Same H H' → (∀ ta H', Same H H' → SqT K H' ta [.str "told", .str (PyData.bool (emp z (b, e))).shown] → Q (.ref ta) H') →
        tRet (tTup (tCons (tC (.str "told")) (tCons (tCB (rRepr K) (tCons (tVar 3) tNil)) tNil))) { nx := fun _ J' => Q .non J', rt := Q } [some (.ref t), some w, some (.int i), some (.bl (emp z (b, e))), none] H' := by
      intro z i H' s' q
      refine ⟨_, rfl, _, .bool (emp z (b, e)), rfl, .bl _, (okD_bool _).sh, (okD_bool _).nd, Nat.le_trans (okD_bool _).dp (by decide), (okD_bool _).ln, (by show 2 ≤ sizeLine; decide), fun p np => ?_⟩
      exact q p _ (s'.trans (Same.new np)) (SqT.hp upd_same)
    rcases hi with rfl | rfl | rfl
    · refine ⟨_, rfl, rfl, _, rfl, iteT ?_⟩
      refine ⟨_, rfl, _, rfl, t, b, e, w, g, rfl, sq, dw, og.shaped, fun he dd H' s' hx => bad _ dd H' 0 rfl s' hx (q1 he), fun z ez H' s' => ?_⟩
      subst ez
      exact good z 0 H' s' (q2 z (dp_endsD dw))
    · refine ⟨_, rfl, rfl, _, rfl, iteF ?_⟩
      refine ⟨_, rfl, rfl, _, rfl, iteT ?_⟩
      refine ⟨_, rfl, _, rfl, rfl, t, b, e, w, g, rfl, sq, dw, og.shaped, fun he dd H' s' hx => bad _ dd H' 1 rfl s' hx (q1 he), fun z ez H' s' => ?_⟩
      subst ez
      exact good z 1 H' s' (q2 z (dp_endsD dw))
    · refine ⟨_, rfl, rfl, _, rfl, iteF ?_⟩
      refine ⟨_, rfl, rfl, _, rfl, iteF ?_⟩
      refine ⟨_, rfl, t, b, e, _, _, rfl, sq, dp_ends false, (ok_ends false).shaped, fun he => absurd he (by rw [isEnds_endsD]; decide), fun z ez H' s' => ?_⟩
      obtain rfl : z = false := by cases z with
        | false => rfl
        | true => exact absurd ez (by decide)
      exact good false 2 H' s' (q2 false rfl)
end
abbrev s_l_asked : Stmt := topS 22
abbrev sc_l_asked_N : List Str := ["_law_couple", "_law_when", "_law_mode", "_law_way", "_law_told", "e"]
theorem sc_l_asked : FnScope sc_l_asked_N ["_law_couple", "_law_when", "_law_mode", "_law_way"] (defScope s_l_asked) := ⟨rfl, rfl, rfl, by decide +kernel, rfl, by decide +kernel, by decide +kernel⟩
def sp_l_asked (K : PySem.W.Frag) : Sp := fun vs H Q _ => ∃ (t : Addr) (b e : Int) (v w : V) (m g : PyData) (i : Int), vs = [.ref t, v, w, .int i] ∧ SqT K H t [.int b, .int e] ∧ Dp K H v m ∧ OkD m ∧ Dp K H w g ∧ OkD g ∧ (i = 0 ∨ i = 1 ∨ i = 2) ∧
  (isMom m = false → ∀ ta H', Same H H' → SqT K H' ta [.str "moment", .str m.shown] → Q (.ref ta) H') ∧
  (isMom m = true → isEnds (usedD i g) = false → ∀ ta H', Same H H' → SqT K H' ta [.str "ends", .str (usedD i g).shown] → Q (.ref ta) H') ∧
  (∀ z n, m = .int n → isMom m = true → usedD i g = endsD z → ∀ ta H', Same H H' → SqT K H' ta [.str "told", .str (PyData.bool (holdsB z (b, e) n)).shown] → Q (.ref ta) H')
def ts_err (K : PySem.W.Frag) (C O : Addr) (f tag : Str) : Addr → Value → Option Addr → TS := fun a cls d => tRet (tIf (tAnd (tB (tCB (rIsD K a cls d) (tCons (tVar 5) (tCons (tC (.ty "ValueError")) tNil)))) (tNot (tB (tCB (rIsD K a cls d) (tCons (tVar 5) (tCons (tC (.ref O)) tNil))))))
    (tTup (tCons (tC (.str tag)) (tCons (tCB (rRepr K) (tCons (tXf a cls d C f (tVar 5)) tNil)) tNil)))
    (tTup (tCons (tC (.str "wrong")) (tCons (tC (.str "")) tNil))))
def tb_as (K : PySem.W.Frag) (M C : Addr) : WX → TS := fun W => tIfS (tTest (tOp rEq (tVar 3) (tC (.int 0))))
    (tAsg (tCallS (sp_holds K M C) (WE W) (tCons (tVar 0) (tCons (tVar 1) (tCons (tVar 2) tNil)))) (gName 4))
    (tIfS (tTest (tOp rEq (tVar 3) (tC (.int 1))))
      (tAsg (fun σ H Q => (tCons (tVar 2) (tCons (tVar 1) (tCons (tVar 0) tNil))) σ H fun zs H2 => zs.length = 3 ∧ sp_holds K M C zs.reverse H2 Q (WE W σ)) (gName 4))
      (tAsg (tCallSD (sp_holds K M C) [.str "half"] (WE W) (tCons (tVar 0) (tCons (tVar 1) tNil))) (gName 4)))
/-- what the suites ask of an error's class: it is a ValueError and not the other -/
structure ErrIs (K : PySem.W.Frag) (C O : Addr) : Prop where
  xc : ExcC K C
  isV : PySem.W.kitOne K (.ref C) (.type "ValueError") = some true
  isO : PySem.W.kitOne K (.ref C) (.ref O) = some false
section
variable {P : Program} {w : World} {K : PySem.W.Frag} {mg : Str → Option Value} {bh : Heap}
theorem ok_l_asked {f : Addr} {fd : FuncData} {C_BadMoment fI_BadMoment : Addr} {fdE_BadMoment : FuncData} {C_BadEnds fI_BadEnds : Addr} {fdE_BadEnds : FuncData} {f_holds : Addr} {fd_holds : FuncData} (B : Blt mg) (bV : mg "ValueError" = none) (T : Txt K mg)
    (E_BadMoment : ErrT P w K mg bh "BadMoment" "moment" C_BadMoment fI_BadMoment fdE_BadMoment) (E_BadEnds : ErrT P w K mg bh "BadEnds" "ends" C_BadEnds fI_BadEnds fdE_BadEnds)
    (I_BadMoment : ErrIs K C_BadMoment C_BadEnds) (I_BadEnds : ErrIs K C_BadEnds C_BadMoment) (xEM : PySem.W.exmOne K (.ref C_BadEnds) (.ref C_BadMoment) = some false)
    (R_holds : RdyXD P w K mg bh "holds" 4 ["pair", "moment", "ends"] [.str "half"] (sp_holds K C_BadMoment C_BadEnds) f_holds fd_holds)
    (kw_holds : KBn K fd_holds ["pair", "moment", "ends"] 0 ["ends", "moment", "pair"] (fun _ ws => List.reverse ws) (fun _ zs => List.reverse zs))
    (F : Fun K "_law_asked" "_law_asked" s_l_asked f fd) : FnG P w K mg bh 5 f fd ["_law_couple", "_law_when", "_law_mode", "_law_way"] (sp_l_asked K) := by
  refine Fun.okG F sc_l_asked (fun vs H Q E h => ?_) (fun cdv A outer s H vs Q E gd hr h => ?_)
  · obtain ⟨t, b, e, v, w, m, g, i, rfl, _⟩ := h
    rfl
  · obtain ⟨t, b, e, v, w, m, g, i, rfl, sq, dv, om, dw, og, hi, q1, q2, q3⟩ := h
    obtain ⟨ds, hd, hb1⟩ := R_holds.bd1
    have hu1 := Nat.lt_of_le_of_lt (Nat.add_le_add_left (by decide : 66 ≤ 200) _) (Nat.lt_of_le_of_lt (Nat.add_le_add_right (Nat.le_add_right _ _) _) hr.un)
    refine ⟨_, (pss_cons (ps_tryN (W0 := fun _ _ _ _ => False) (tb := tb_as K C_BadMoment C_BadEnds) (l := [⟨.ref C_BadMoment, 5, ts_err K C_BadMoment C_BadEnds "moment" "moment"⟩, ⟨.ref C_BadEnds, 5, ts_err K C_BadEnds C_BadMoment "ends" "ends"⟩]) rfl rfl sc_l_asked.nd takes0 ?_ ?_)
      (pss_one (ps_ret (pe_tup (pa_cons pe_str (pa_cons (pe_callB (call_reprD gd hr) (by rfl) B.b_repr (by decide +kernel) (pa_cons (pv 4) pa_nil)) pa_nil)))))), ?_⟩
    · intro W pn xe tk _
      exact (pss_one (ps_if (pt_cmpR op_eq (pv 3) pe_int (nomark _))
        (pss_one (ps_set (i := 4) sc_l_asked.nd rfl (Or.inl rfl) (pe_callS R_holds.ok (hr.mono (by decide)) (by rfl) R_holds.gl R_holds.kp R_holds.bd (fun σ => passAt tk σ) (pa_cons (pv 0) (pa_cons (pv 1) (pa_cons (pv 2) pa_nil))))))
        (pss_one (ps_if (pt_cmpR op_eq (pv 3) pe_int (nomark _))
          (pss_one (ps_set (i := 4) sc_l_asked.nd rfl (Or.inl rfl) (pe_kw0S R_holds.ok (hr.mono (j := 4) (by decide)) (by decide) (by rfl) R_holds.gl R_holds.kp kw_holds (fun σ => passAt tk σ) (pk_cons (pv 2) (pk_cons (pv 1) (pk_cons (pv 0) pk_nil))))))
          (pss_one (ps_set (i := 4) sc_l_asked.nd rfl (Or.inl rfl) (pe_callSD R_holds.ok (hr.mono (by decide)) (by rfl) R_holds.gl R_holds.kp hb1 hd (fun σ => passAt tk σ) (pa_cons (pv 0) (pa_cons (pv 1) pa_nil)))))))))
    · refine ClOk.cons rfl rfl ⟨rfl, by decide, Or.inl E_BadMoment.gC⟩ (fun a oe cls d pn hz hf => ?_) (ClOk.cons rfl rfl ⟨rfl, by decide, Or.inl E_BadEnds.gC⟩ (fun a oe cls d pn hz hf => ?_) .nil)
      · exact pss_one (ps_ret (pe_ifExp (PW.pt (pw_and (pt_val (pe_callB (call_isD hz hf) (by rfl) B.b_isinstance (by decide +kernel) (pa_cons (pv 5) (pa_cons (pe_bltn (v := .ty "ValueError") (by rfl) bV (by decide +kernel) rfl) pa_nil)))) (pw_and1 (pt_not (pt_val (pe_callB (call_isD hz hf) (by rfl) B.b_isinstance (by decide +kernel) (pa_cons (pv 5) (pa_cons (pe_glob (v := .ref C_BadEnds) (by rfl) E_BadEnds.gC rfl) pa_nil))))))))
          (pe_tup (pa_cons pe_str (pa_cons (pe_callB (by exact call_reprU gd hu1) (by rfl) B.b_repr (by decide +kernel) (pa_cons (pe_xf E_BadMoment.xf E_BadMoment.noF hz hf (pv 5)) pa_nil)) pa_nil)))
          (pe_tup (pa_cons pe_str (pa_cons pe_str pa_nil)))))
      · exact pss_one (ps_ret (pe_ifExp (PW.pt (pw_and (pt_val (pe_callB (call_isD hz hf) (by rfl) B.b_isinstance (by decide +kernel) (pa_cons (pv 5) (pa_cons (pe_bltn (v := .ty "ValueError") (by rfl) bV (by decide +kernel) rfl) pa_nil)))) (pw_and1 (pt_not (pt_val (pe_callB (call_isD hz hf) (by rfl) B.b_isinstance (by decide +kernel) (pa_cons (pv 5) (pa_cons (pe_glob (v := .ref C_BadMoment) (by rfl) E_BadMoment.gC rfl) pa_nil))))))))
          (pe_tup (pa_cons pe_str (pa_cons (pe_callB (by exact call_reprU gd hu1) (by rfl) B.b_repr (by decide +kernel) (pa_cons (pe_xf E_BadEnds.xf E_BadEnds.noF hz hf (pv 5)) pa_nil)) pa_nil)))
          (pe_tup (pa_cons pe_str (pa_cons pe_str pa_nil)))))
    have suite : ∀ (C O : Addr) (f tag : Str) (x : V) (y : PyData) (D : L2.Ends) (dd a : Addr) (H' : Hp) (σ : L2.St), ErrIs K C O → D.rt = Q → Same H H' → H' dd = some (.xd [(f, x)]) → Dp K H x y → OkD y → σ[5]? = some (some (.ref a)) →
        (∀ ta H', Same H H' → SqT K H' ta [.str tag, .str y.shown] → Q (.ref ta) H') → ts_err K C O f tag a (.ref C) (some dd) D σ H' := by
      intro C O f tag x y D dd a H' σ I hD s' hx dx oy h5 q
      have lk : List.lookup f [(f, x)] = some x := by simp [List.lookup]
      refine ⟨.ref a, h5, C, dd, _, _, _, true, rfl, rfl, hx, rfl, .ty _, I.xc, I.isV, true, rfl, iteT ?_⟩
      refine ⟨.ref a, h5, C, dd, _, _, _, false, rfl, rfl, hx, rfl, .own _, I.xc, I.isO, false, rfl, iteT ?_⟩
      refine ⟨.ref a, h5, rfl, rfl, dd, _, x, rfl, hx, lk, x, y, rfl, sameD s' y dx, oy.sh, oy.nd, Nat.le_trans oy.dp (by decide), oy.ln, (by show 2 ≤ sizeLine; decide), fun p np => ?_⟩
      show D.rt _ _
      rw [hD]
      exact q p _ (s'.trans (Same.new np)) (SqT.hp upd_same)
    have badM : ∀ (D : L2.Ends) (dd : Addr) (H' : Hp) (i : Int), D.rt = Q → Same H H' → H' dd = some (.xd [(("moment" : Str), v)]) → isMom m = false →
        wCl K (fun _ _ _ _ => False) D [⟨.ref C_BadMoment, 5, ts_err K C_BadMoment C_BadEnds "moment" "moment"⟩, ⟨.ref C_BadEnds, 5, ts_err K C_BadEnds C_BadMoment "ends" "ends"⟩] (.ref C_BadMoment) (some dd) [some (.ref t), some v, some w, some (.int i), none, none] H' := by
      intro D dd H' i hD s' hx hm
      exact ⟨true, E_BadMoment.self, fun _ a na => suite _ _ _ _ v m _ dd a H' _ I_BadMoment hD s' hx dv om rfl (q1 hm), fun z => nomatch z⟩
    have badE : ∀ (D : L2.Ends) (dd : Addr) (H' : Hp) (i : Int), D.rt = Q → Same H H' → H' dd = some (.xd [(("ends" : Str), w)]) → (∀ ta H', Same H H' → SqT K H' ta [.str "ends", .str g.shown] → Q (.ref ta) H') →
        wCl K (fun _ _ _ _ => False) D [⟨.ref C_BadMoment, 5, ts_err K C_BadMoment C_BadEnds "moment" "moment"⟩, ⟨.ref C_BadEnds, 5, ts_err K C_BadEnds C_BadMoment "ends" "ends"⟩] (.ref C_BadEnds) (some dd) [some (.ref t), some v, some w, some (.int i), none, none] H' := by
      intro D dd H' i hD s' hx q
      exact ⟨false, xEM, (fun z => nomatch z), fun _ => ⟨true, E_BadEnds.self, fun _ a na => suite _ _ _ _ w g _ dd a H' _ I_BadEnds hD s' hx dw og rfl q, fun z => nomatch z⟩⟩
    have good : ∀ (y : Bool) (i : Int) (H' : Hp), Same H H' → (∀ ta H', Same H H' → SqT K H' ta [.str "told", .str (PyData.bool y).shown] → Q (.ref ta) H') →
        tRet (tTup (tCons (tC (.str "told")) (tCons (tCB (rRepr K) (tCons (tVar 4) tNil)) tNil))) { nx := fun _ J' => Q .non J', rt := Q } [some (.ref t), some v, some w, some (.int i), some (.bl y), none] H' := by
      intro y i H' s' q
      refine ⟨_, rfl, _, .bool y, rfl, .bl _, (okD_bool _).sh, (okD_bool _).nd, Nat.le_trans (okD_bool _).dp (by decide), (okD_bool _).ln, (by show 2 ≤ sizeLine; decide), fun p np => ?_⟩
      exact q p _ (s'.trans (Same.new np)) (SqT.hp upd_same)
    rcases hi with rfl | rfl | rfl
    · refine ⟨_, rfl, rfl, _, rfl, iteT ?_⟩
      refine ⟨_, rfl, _, rfl, _, rfl, t, b, e, v, w, m, g, rfl, sq, dv, dw, og.shaped, fun hm dd H' s' hx => badM _ dd H' 0 rfl s' hx hm, fun hm he dd H' s' hx => badE _ dd H' 0 rfl s' hx (q2 hm he), fun n z en ez hm H' s' => ?_⟩
      subst ez
      exact good _ 0 H' s' (q3 z n en hm (dp_endsD dw))
    · refine ⟨_, rfl, rfl, _, rfl, iteF ?_⟩
      refine ⟨_, rfl, rfl, _, rfl, iteT ?_⟩
      refine ⟨_, rfl, _, rfl, _, rfl, rfl, t, b, e, v, w, m, g, rfl, sq, dv, dw, og.shaped, fun hm dd H' s' hx => badM _ dd H' 1 rfl s' hx hm, fun hm he dd H' s' hx => badE _ dd H' 1 rfl s' hx (q2 hm he), fun n z en ez hm H' s' => ?_⟩
      subst ez
      exact good _ 1 H' s' (q3 z n en hm (dp_endsD dw))
    · refine ⟨_, rfl, rfl, _, rfl, iteF ?_⟩
      refine ⟨_, rfl, rfl, _, rfl, iteF ?_⟩
      refine ⟨_, rfl, _, rfl, t, b, e, v, _, m, _, rfl, sq, dv, dp_ends false, (ok_ends false).shaped, fun hm dd H' s' hx => badM _ dd H' 2 rfl s' hx hm, fun hm he => absurd he (by rw [isEnds_endsD]; decide), fun n z en ez hm H' s' => ?_⟩
      obtain rfl : z = false := by cases z with
        | false => rfl
        | true => exact absurd ez (by decide)
      exact good _ 2 H' s' (q3 false n en hm rfl)
end
/-! a def of the kind FnG, ready to be called -/
structure RdyG (P : Program) (w : World) (K : PySem.W.Frag) (mg : Str → Option Value) (bh : Heap) (x : Str) (k : Nat) (ps : List Str) (sp : Sp) (f : Addr) (fd : FuncData) : Prop where
  ok : FnG P w K mg bh k f fd ps sp
  gl : mg x = some (.ref f)
  kp : PySem.W.keepIn K (.ref f) = true
  bd : Binds K fd ps []
section
variable {X : Cx} {x : Str} {k j : Nat} {ps : List Str} {sp : Sp} {f : Addr} {fd : FuncData} {p pos : Pos} {e : Expr} {es : List Expr} {t : TA}
theorem pe_rdyG (R : RdyG X.prog X.w X.K X.mg X.base x k ps sp f fd) (gd : X.A.guards = some []) (rm : Room j X.A) (hj : k ≤ j) (hg : Gl X x) (ha : PA X (e :: es) t) (hdb : (x == ("__debug__" : Str)) = false := by decide)
    (he : starEach (e :: es) X.env = (false, eval e X.env) :: starEach es X.env := by rfl) (hpl : (backTo pos (starEach es X.env)).any (·.1) = false := by rfl) :
    PE X (.Call (.Name x p) (e :: es) [] pos) (tCall sp [] E0 t) := pe_callG R.ok gd (rm.mono hj) hg R.gl R.kp R.bd .nil ha hdb he hpl
end
theorem shp2 {x y : Str} (hx : PyData.canLay0 (.str x) = true) (hy : PyData.canLay0 (.str y) = true) : SeqAt.shaped (.tuple [.str x, .str y]) = true := by
  unfold SeqAt.shaped
  have e : PyData.canLay0 (.tuple [.str x, .str y]) = true := by
    simp [PyData.canLay0, PyData.canLayAll0] at hx hy ⊢
    exact ⟨hx, hy⟩
  have e2 : (PyData.tuple [.str x, .str y]).depth ≤ 60 := by simp [PyData.depth, PyData.depthAll]
  rw [e]
  simp
  omega
theorem eq2 (x y : Str) : PyData.eqv (.tuple [.str x, .str y]) (.tuple [.str x, .str y]) = true := by
  simp [PyData.eqv, PyData.eqvAll]
theorem neq2 {K : PySem.W.Frag} {H : Hp} {ta p : Addr} {x y : Str} {Q : VK} (h1 : SqT K H ta [.str x, .str y]) (h2 : SqT K H p [.str x, .str y]) (s : SeqAt.shaped (.tuple [.str x, .str y]) = true) (q : Q (.bl false) H) : rNeD K (.ref ta) (.ref p) H Q := by
  refine ⟨_, _, .tup h1 (.cons (.str _) (.cons (.str _) .nil)), .tup h2 (.cons (.str _) (.cons (.str _) .nil)), s, s, ?_⟩
  rw [eq2]
  exact q
theorem any_ends (d : PyData) : (([.str "half", .str "shut"] : List PyData).any fun z => PyData.eqv z d) = isEnds d := by
  have h := ends_any d
  revert h
  cases (([.str "half", .str "shut"] : List PyData).any fun z => PyData.eqv z d) <;> cases isEnds d <;> simp
theorem isEnds_str {d : PyData} (h : ¬ (match d with | .str _ => true | _ => false) = true) : isEnds d = false := by
  cases d <;> first | rfl | exact absurd rfl h
theorem endsD_inj {z z' : Bool} (h : endsD z = endsD z') : z = z' := by
  cases z <;> cases z' <;> first | rfl | (injection h with h; exact absurd h (by decide +kernel))
/-- what is due of _law_asked, of _law_empty_asked -/
def DueA (m d : PyData) (b e : Int) (x y : Str) : Prop := (isMom m = false → x = "moment" ∧ y = m.shown) ∧ (isMom m = true → isEnds d = false → x = "ends" ∧ y = d.shown) ∧
  (∀ z n, m = .int n → isMom m = true → d = endsD z → x = "told" ∧ y = (PyData.bool (holdsB z (b, e) n)).shown)
def DueE (d : PyData) (b e : Int) (x y : Str) : Prop := (isEnds d = false → x = "ends" ∧ y = d.shown) ∧ (∀ z, d = endsD z → x = "told" ∧ y = (PyData.bool (emp z (b, e))).shown)
abbrev s_l_right : Stmt := topS 24
abbrev sc_l_right_N : List Str := ["_law_couple", "_law_when", "_law_mode", "_law_way", "_law_used", "_law_is_mode", "_law_due"]
theorem sc_l_right : FnScope sc_l_right_N ["_law_couple", "_law_when", "_law_mode"] (defScope s_l_right) := ⟨rfl, rfl, rfl, by decide +kernel, rfl, by decide +kernel, by decide +kernel⟩
def sp_l_right (K : PySem.W.Frag) : Sp := fun vs H Q _ => ∃ (t : Addr) (b e : Int) (v w : V) (m g : PyData), vs = [.ref t, v, w] ∧ SqT K H t [.int b, .int e] ∧ Dp K H v m ∧ OkD m ∧ Dp K H w g ∧ OkD g ∧ ∀ H', Same H H' → Q (.bl true) H'
section
variable {P : Program} {w : World} {K : PySem.W.Frag} {mg : Str → Option Value} {bh : Heap}
theorem ok_l_right {f : Addr} {fd : FuncData} {f_l_is_moment : Addr} {fd_l_is_moment : FuncData} {f_l_holds : Addr} {fd_l_holds : FuncData} {f_l_asked : Addr} {fd_l_asked : FuncData} {f_l_empty_asked : Addr} {fd_l_empty_asked : FuncData} (B : Blt mg) (T : Txt K mg)
    (R_l_is_moment : Rdy P w K mg bh "_law_is_moment" 1 ["_law_thing"] (sp_l_is_moment K) f_l_is_moment fd_l_is_moment)
    (R_l_holds : Rdy P w K mg bh "_law_holds" 1 ["_law_couple", "_law_when", "_law_mode"] (sp_l_holds K) f_l_holds fd_l_holds)
    (R_l_asked : RdyG P w K mg bh "_law_asked" 5 ["_law_couple", "_law_when", "_law_mode", "_law_way"] (sp_l_asked K) f_l_asked fd_l_asked)
    (R_l_empty_asked : RdyG P w K mg bh "_law_empty_asked" 5 ["_law_couple", "_law_mode", "_law_way"] (sp_l_empty_asked K) f_l_empty_asked fd_l_empty_asked)
    (F : Fun K "_law_right" "_law_right" s_l_right f fd) : FnG P w K mg bh 6 f fd ["_law_couple", "_law_when", "_law_mode"] (sp_l_right K) := by
  refine Fun.okG F sc_l_right (fun vs H Q E h => ?_) (fun cdv A outer s H vs Q E gd hr h => ?_)
  · obtain ⟨t, b, e, v, w, m, g, rfl, _⟩ := h
    rfl
  · obtain ⟨t, b, e, v, w, m, g, rfl, sq, dv, om, dw, og, q⟩ := h
    refine ⟨_, (pss_cons (ps_for PassesOwn.never rfl (pi_range1 (by rfl) B.b_range (pa_cons pe_int pa_nil)) (pg_name (i := 3) sc_l_right.nd rfl (Or.inl rfl))
      (pss_mid (ps_set (i := 4) sc_l_right.nd rfl (Or.inl rfl) (pe_ifExp (pt_cmpR op_eq (pv 3) pe_int (nomark _)) pe_str (pv 2)))
      (pss_mid (ps_set (i := 5) sc_l_right.nd rfl (Or.inl rfl) (pe_and (pe_callB call_isi (by rfl) B.b_isinstance (by decide +kernel) (pa_cons (pv 4) (pa_cons (pe_bltn (v := .ty "str") (by rfl) B.b_str (by decide +kernel) rfl) pa_nil))) (pe_one (pe_cmpR (op_inD (Nat.lt_of_le_of_lt (Nat.add_le_add_left (by decide : 65 ≤ 200) _) (Nat.lt_of_le_of_lt (Nat.add_le_add_right (Nat.le_add_right _ _) _) hr.un))) (pv 4) (pe_lst (pa_cons pe_str (pa_cons pe_str pa_nil))) (by rfl)))))
      (pss_cons (ps_set (i := 6) sc_l_right.nd rfl (Or.inl rfl) (pe_tup (pa_cons pe_str (pa_cons (pe_callB (call_reprD gd hr) (by rfl) B.b_repr (by decide +kernel) (pa_cons (pv 4) pa_nil)) pa_nil))))
      (pss_mid (ps_if (pt_not (pt_val (pe_rdy R_l_is_moment hr (by decide) (by rfl) (pa_cons (pv 1) pa_nil))))
      (pss_one (ps_set (i := 6) sc_l_right.nd rfl (Or.inl rfl) (pe_tup (pa_cons pe_str (pa_cons (pe_callB (call_reprD gd hr) (by rfl) B.b_repr (by decide +kernel) (pa_cons (pv 1) pa_nil)) pa_nil)))))
      (pss_one (ps_if (pt_truth (pv 5) (by intro _; rfl))
      (pss_one (ps_set (i := 6) sc_l_right.nd rfl (Or.inl rfl) (pe_tup (pa_cons pe_str (pa_cons (pe_callB (call_reprD gd hr) (by rfl) B.b_repr (by decide +kernel) (pa_cons (pe_rdy R_l_holds hr (by decide) (by rfl) (pa_cons (pv 0) (pa_cons (pv 1) (pa_cons (pv 4) pa_nil)))) pa_nil)) pa_nil)))))
      pss_nil)))
      (pss_mid (ps_if (pt_cmpR (op_neD hr.units) (pe_rdyG R_l_asked gd hr (by decide) (by rfl) (pa_cons (pv 0) (pa_cons (pv 1) (pa_cons (pv 2) (pa_cons (pv 3) pa_nil))))) (pv 6) (nomark _))
      (pss_one (ps_ret pe_bl))
      pss_nil)
      (pss_cons (ps_set (i := 6) sc_l_right.nd rfl (Or.inl rfl) (pe_tup (pa_cons pe_str (pa_cons (pe_callB (call_reprD gd hr) (by rfl) B.b_repr (by decide +kernel) (pa_cons (pv 4) pa_nil)) pa_nil))))
      (pss_mid (ps_if (pt_truth (pv 5) (by intro _; rfl))
      (pss_one (ps_set (i := 6) sc_l_right.nd rfl (Or.inl rfl) (pe_tup (pa_cons pe_str (pa_cons (pe_callB (call_reprD gd hr) (by rfl) B.b_repr (by decide +kernel) (pa_cons (pe_or (pe_cmpR op_gt (pe_ix ix_tup (pv 0) pe_int (fun _ _ => rfl)) (pe_ix ix_tup (pv 0) pe_int (fun _ _ => rfl)) (nomark _)) (pe_one (pe_and (pe_cmpR op_eq (pv 4) pe_str (nomark _)) (pe_one (pe_cmpR op_eq (pe_ix ix_tup (pv 0) pe_int (fun _ _ => rfl)) (pe_ix ix_tup (pv 0) pe_int (fun _ _ => rfl)) (nomark _)))))) pa_nil)) pa_nil)))))
      pss_nil)
      (pss_one (ps_if (pt_cmpR (op_neD hr.units) (pe_rdyG R_l_empty_asked gd hr (by decide) (by rfl) (pa_cons (pv 0) (pa_cons (pv 2) (pa_cons (pv 3) pa_nil)))) (pv 6) (nomark _))
      (pss_one (ps_ret pe_bl))
      pss_nil))))))))))
      (pss_one (ps_ret pe_bl))), ?_⟩
    refine ⟨3, rfl, by omega, by omega, ?_⟩
    refine for_range (lo := 0) (n := 3) (fun i σ H' => (∃ y3 y4 y5 y6, σ = [some (.ref t), some v, some w, y3, y4, y5, y6]) ∧ Same H H') ⟨⟨_, _, _, _, rfl⟩, Same.refl H⟩ ?_ ?_
    · rintro i σ H1 hi ⟨⟨y3, y4, y5, y6, rfl⟩, s1⟩
      have three : (0 + (i : Int)) = 0 ∨ (0 + (i : Int)) = 1 ∨ (0 + (i : Int)) = 2 := by omega
      generalize hI : (0 + (i : Int)) = I at *
      refine ⟨fun σ H' => ∃ u d, σ = [some (.ref t), some v, some w, some (.int I), some u, y5, y6] ∧ usedD I g = d ∧ OkD d ∧ Dp K H u d ∧ Same H H', ?_, ?_⟩
      · refine ⟨_, rfl, rfl, _, rfl, ?_⟩
        refine ite2 (fun c => ?_) (fun c => ?_)
        · refine ⟨_, .str "half", rfl, ?_, ok_ends false, .str _, s1⟩
          have e2 : V.int I = V.int 2 := of_decide_eq_true c
          injection e2 with e2
          show (if I = 2 then _ else _) = _
          rw [if_pos e2]
        · refine ⟨_, rfl, _, g, rfl, ?_, og, dw, s1⟩
          have e2 : ¬ V.int I = V.int 2 := fun z => c (decide_eq_true z)
          show (if I = 2 then _ else _) = _
          rw [if_neg (fun z => e2 (by rw [z]))]
      rintro σ H2 ⟨u, d, rfl, eu, ou, du, s2⟩
      refine ⟨fun σ H' => σ = [some (.ref t), some v, some w, some (.int I), some u, some (.bl (isEnds d)), y6] ∧ Same H H', ?_, ?_⟩
      · refine ⟨_, rfl, _, _, _, _, _, rfl, .ty _, dpTy (sameD s2 d du), kit_ty (kitStr d), _, rfl, ?_⟩
        refine ite2 (fun c5 => ?_) (fun c5 => ?_)
        · refine ⟨_, rfl, (by show 2 ≤ sizeLine; decide), fun l nl => ⟨d, _, sameD (s2.trans (Same.new nl)) d du, .lst (SqL.hp upd_same) (.cons (.str _) (.cons (.str _) .nil)), ou.shaped, by decide +kernel, ?_⟩⟩
          rw [any_ends]
          exact ⟨rfl, s2.trans (Same.new nl)⟩
        · refine ⟨?_, s2⟩
          rw [isEnds_str c5]
          rfl
      rintro σ H3 ⟨rfl, s3⟩
      refine ⟨_, rfl, _, d, rfl, sameD s3 d du, ou.sh, ou.nd, Nat.le_trans ou.dp (by decide), ou.ln, (by show 2 ≤ sizeLine; decide), fun p np => ?_⟩
      have s4 := s3.trans (Same.new (o := .tup [.str "ends", .str d.shown]) np)
      refine ⟨fun σ H' => ∃ p x y, σ = [some (.ref t), some v, some w, some (.int I), some u, some (.bl (isEnds d)), some (.ref p)] ∧ Same H H' ∧ SqT K H' p [.str x, .str y] ∧ SeqAt.shaped (.tuple [.str x, .str y]) = true ∧ DueA m d b e x y, ?_, ?_⟩
      · refine ⟨_, rfl, v, m, rfl, sameD s4 m dv, _, rfl, ?_⟩
        refine ite2 (fun c => ?_) (fun c => ?_)
        · have hm : isMom m = false := by simpa using c
          refine ⟨_, rfl, _, m, rfl, sameD s4 m dv, om.sh, om.nd, Nat.le_trans om.dp (by decide), om.ln, (by show 2 ≤ sizeLine; decide), fun p' np' => ?_⟩
          refine ⟨p', "moment", m.shown, rfl, s4.trans (Same.new np'), SqT.hp upd_same, shp2 (by decide +kernel) om.st, fun _ => ⟨rfl, rfl⟩, fun z => ?_, fun z n _ h => ?_⟩
          · rw [hm] at z; exact nomatch z
          · rw [hm] at h; exact nomatch h
        · have hm : isMom m = true := by simpa using c
          have hn : isNum m = true := by
            cases h : isNum m with
            | true => rfl
            | false => rw [isMom_not (by rw [h]; decide)] at hm; exact nomatch hm
          obtain ⟨n, ev, em⟩ := int_of dv hn
          refine ⟨_, rfl, _, rfl, ?_⟩
          refine ite2 (fun c2 => ?_) (fun c2 => ?_)
          · obtain ⟨z, ez⟩ := ends_of du c2
            have ed : d = endsD z := dp_endsD (ez ▸ du)
            refine ⟨_, rfl, _, rfl, _, rfl, t, b, e, n, z, by rw [ev, ez]; rfl, sameT s4 sq, _, .bool (holdsB z (b, e) n), rfl, .bl _, (okD_bool _).sh, (okD_bool _).nd, Nat.le_trans (okD_bool _).dp (by decide), (okD_bool _).ln, (by show 2 ≤ sizeLine; decide), fun p' np' => ?_⟩
            refine ⟨p', "told", _, rfl, s4.trans (Same.new np'), SqT.hp upd_same, shp2 (by decide +kernel) (okD_bool _).st, fun h => ?_, fun _ h => ?_, fun z' n' en _ ez' => ?_⟩
            · rw [hm] at h; exact nomatch h
            · rw [c2] at h; exact nomatch h
            · obtain rfl : z = z' := endsD_inj (ed.symm.trans ez')
              rw [em] at en
              injection en with en
              subst en
              exact ⟨rfl, rfl⟩
          · have he : isEnds d = false := Bool.eq_false_iff.mpr c2
            refine ⟨p, "ends", d.shown, rfl, s4, SqT.hp upd_same, shp2 (by decide +kernel) ou.st, fun h => ?_, fun _ _ => ⟨rfl, rfl⟩, fun z n _ _ ez => ?_⟩
            · rw [hm] at h; exact nomatch h
            · rw [ez, isEnds_endsD] at he; exact nomatch he
      rintro σ H5 ⟨p5, x, y, rfl, s5, h5, sh5, due⟩
      refine ⟨fun σ H' => σ = [some (.ref t), some v, some w, some (.int I), some u, some (.bl (isEnds d)), some (.ref p5)] ∧ Same H H', ?_, ?_⟩
      · refine ⟨_, rfl, _, rfl, _, rfl, _, rfl, t, b, e, v, w, m, g, I, rfl, sameT s5 sq, sameD s5 m dv, om, sameD s5 g dw, og, three, ?_, ?_, ?_⟩
        · intro hm ta H' s' hT
          obtain ⟨rfl, rfl⟩ := due.1 hm
          exact ⟨_, rfl, neq2 hT (sameT s' h5) sh5 ⟨_, rfl, iteF ⟨rfl, s5.trans s'⟩⟩⟩
        · intro hm he ta H' s' hT
          rw [eu] at he hT
          obtain ⟨rfl, rfl⟩ := due.2.1 hm he
          exact ⟨_, rfl, neq2 hT (sameT s' h5) sh5 ⟨_, rfl, iteF ⟨rfl, s5.trans s'⟩⟩⟩
        · intro z n en hm ez ta H' s' hT
          rw [eu] at ez
          obtain ⟨rfl, rfl⟩ := due.2.2 z n en hm ez
          exact ⟨_, rfl, neq2 hT (sameT s' h5) sh5 ⟨_, rfl, iteF ⟨rfl, s5.trans s'⟩⟩⟩
      rintro σ H6 ⟨rfl, s6⟩
      refine ⟨_, rfl, _, d, rfl, sameD s6 d du, ou.sh, ou.nd, Nat.le_trans ou.dp (by decide), ou.ln, (by show 2 ≤ sizeLine; decide), fun p6 np6 => ?_⟩
      have s7 := s6.trans (Same.new (o := .tup [.str "ends", .str d.shown]) np6)
      refine ⟨fun σ H' => ∃ p x y, σ = [some (.ref t), some v, some w, some (.int I), some u, some (.bl (isEnds d)), some (.ref p)] ∧ Same H H' ∧ SqT K H' p [.str x, .str y] ∧ SeqAt.shaped (.tuple [.str x, .str y]) = true ∧ DueE d b e x y, ?_, ?_⟩
      · refine ⟨_, rfl, _, rfl, ?_⟩
        refine ite2 (fun c2 => ?_) (fun c2 => ?_)
        · obtain ⟨z, ez⟩ := ends_of du c2
          have ed : d = endsD z := dp_endsD (ez ▸ du)
          have ok2 : (2 : Nat) ≤ sizeLine := by decide
          have fin : ∀ (y : Bool) (p' : Addr) (H' : Hp), y = emp z (b, e) → Same H H' → SqT K H' p' [.str "told", .str (PyData.bool y).shown] → ∃ p x y, ([some (.ref t), some v, some w, some (.int I), some u, some (.bl (isEnds d)), some (.ref p')] : L2.St) = [some (.ref t), some v, some w, some (.int I), some u, some (.bl (isEnds d)), some (.ref p)] ∧ Same H H' ∧ SqT K H' p [.str x, .str y] ∧ SeqAt.shaped (.tuple [.str x, .str y]) = true ∧ DueE d b e x y := by
            rintro y p' H' rfl s' hT
            refine ⟨p', "told", _, rfl, s', hT, shp2 (by decide +kernel) (okD_bool _).st, fun h => ?_, fun z' ez' => ?_⟩
            · rw [c2] at h; exact nomatch h
            · obtain rfl : z = z' := endsD_inj (ed.symm.trans ez')
              exact ⟨rfl, rfl⟩
          refine ⟨_, rfl, t, _, _, _, rfl, rfl, sameT s7 sq, rfl, _, rfl, t, _, _, _, rfl, rfl, sameT s7 sq, rfl, _, _, rfl, rfl, _, rfl, ?_⟩
          refine ite2 (fun c3 => ?_) (fun c3 => ?_)
          · refine ⟨_, .bool true, rfl, .bl _, (okD_bool _).sh, (okD_bool _).nd, Nat.le_trans (okD_bool _).dp (by decide), (okD_bool _).ln, ok2, fun p' np' => ?_⟩
            have c4 : b > e := of_decide_eq_true c3
            refine fin true p' _ ?_ (s7.trans (Same.new np')) (SqT.hp upd_same)
            cases z
            · exact (decide_eq_true (show e ≤ b by omega)).symm
            · exact (decide_eq_true (show e < b by omega)).symm
          · have c4 : ¬ b > e := fun h => c3 (decide_eq_true h)
            refine ⟨_, rfl, by rw [ez]; exact endsV_scalH z, _, rfl, ?_⟩
            refine ite2 (fun c6 => ?_) (fun c6 => ?_)
            · obtain rfl : z = false := by rw [ez, endsV_half] at c6; simpa using c6
              refine ⟨_, rfl, t, _, _, _, rfl, rfl, sameT s7 sq, rfl, _, rfl, t, _, _, _, rfl, rfl, sameT s7 sq, rfl, rfl, ?_⟩
              refine ⟨_, .bool (decide (V.int b = V.int e)), rfl, .bl _, (okD_bool _).sh, (okD_bool _).nd, Nat.le_trans (okD_bool _).dp (by decide), (okD_bool _).ln, ok2, fun p' np' => ?_⟩
              refine fin _ p' _ ?_ (s7.trans (Same.new np')) (SqT.hp upd_same)
              show decide (V.int b = V.int e) = decide (e ≤ b)
              refine decide_eq_decide.mpr ⟨fun h => ?_, fun h => ?_⟩
              · injection h with h; omega
              · rw [show b = e by omega]
            · obtain rfl : z = true := by
                rw [ez, endsV_half] at c6
                cases z with
                | true => rfl
                | false => exact absurd rfl c6
              refine ⟨_, .bool false, rfl, .bl _, (okD_bool _).sh, (okD_bool _).nd, Nat.le_trans (okD_bool _).dp (by decide), (okD_bool _).ln, ok2, fun p' np' => ?_⟩
              refine fin false p' _ ?_ (s7.trans (Same.new np')) (SqT.hp upd_same)
              exact (decide_eq_false (show ¬ e < b by omega)).symm
        · have he : isEnds d = false := Bool.eq_false_iff.mpr c2
          refine ⟨p6, "ends", d.shown, rfl, s7, SqT.hp upd_same, shp2 (by decide +kernel) ou.st, fun _ => ⟨rfl, rfl⟩, fun z ez => ?_⟩
          rw [ez, isEnds_endsD] at he; exact nomatch he
      rintro σ H8 ⟨p8, x8, y8, rfl, s8, h8, sh8, due8⟩
      refine ⟨_, rfl, _, rfl, _, rfl, t, b, e, w, g, I, rfl, sameT s8 sq, sameD s8 g dw, og, three, ?_, ?_⟩
      · intro he ta H' s' hT
        rw [eu] at he hT
        obtain ⟨rfl, rfl⟩ := due8.1 he
        exact ⟨_, rfl, neq2 hT (sameT s' h8) sh8 ⟨_, rfl, iteF ⟨⟨_, _, _, _, rfl⟩, s8.trans s'⟩⟩⟩
      · intro z ez ta H' s' hT
        rw [eu] at ez
        obtain ⟨rfl, rfl⟩ := due8.2 z ez
        exact ⟨_, rfl, neq2 hT (sameT s' h8) sh8 ⟨_, rfl, iteF ⟨⟨_, _, _, _, rfl⟩, s8.trans s'⟩⟩⟩
    · rintro σ H1 ⟨⟨y3, y4, y5, y6, rfl⟩, s1⟩
      exact q H1 s1
end
abbrev s_law : Stmt := topS 25
abbrev sc_law_N : List Str := ["_law_script", "_law_at", "_law_bag_here", "_law_couple", "_law_turn", "_law_mode"]
theorem sc_law : FnScope sc_law_N ["_law_script"] (defScope s_law) := ⟨rfl, rfl, rfl, by decide +kernel, rfl, by decide +kernel, by decide +kernel⟩
def sp_law (K : PySem.W.Frag) : Sp := fun vs H Q _ => ∃ (a : Addr) (ns : List Int), vs = [.ref a] ∧ SqL K H a (ns.map V.int) ∧ ns.length ≤ 63 ∧ ∀ H', Q (.bl true) H'
section
variable {P : Program} {w : World} {K : PySem.W.Frag} {mg : Str → Option Value} {bh : Heap}
theorem ok_law {f : Addr} {fd : FuncData} {f_l_bag f_l_take f_l_any_edge f_l_odd_ends f_l_some_moment f_l_right : Addr} {fd_l_bag fd_l_take fd_l_any_edge fd_l_odd_ends fd_l_some_moment fd_l_right : FuncData} (B : Blt mg) (T : Txt K mg)
    (R_l_bag : Rdy P w K mg bh "_law_bag" 1 ["_law_script", "_law_at"] (sp_l_bag K) f_l_bag fd_l_bag) (R_l_take : Rdy P w K mg bh "_law_take" 1 ["_law_bag_here", "_law_many"] (sp_l_take K) f_l_take fd_l_take)
    (R_l_any_edge : Rdy P w K mg bh "_law_any_edge" 3 ["_law_bag_here"] (sp_l_any_edge K) f_l_any_edge fd_l_any_edge) (R_l_odd_ends : Rdy P w K mg bh "_law_odd_ends" 2 ["_law_bag_here"] (sp_l_odd_ends K) f_l_odd_ends fd_l_odd_ends)
    (R_l_some_moment : Rdy P w K mg bh "_law_some_moment" 4 ["_law_bag_here", "_law_couple"] (sp_l_some_moment K) f_l_some_moment fd_l_some_moment)
    (R_l_right : RdyG P w K mg bh "_law_right" 6 ["_law_couple", "_law_when", "_law_mode"] (sp_l_right K) f_l_right fd_l_right)
    (F : Fun K "law" "law" s_law f fd) : FnG P w K mg bh 7 f fd ["_law_script"] (sp_law K) := by
  refine Fun.okG F sc_law (fun vs H Q E h => ?_) (fun cdv A outer s H vs Q E gd hr h => ?_)
  · obtain ⟨a, ns, rfl, _⟩ := h
    rfl
  · obtain ⟨a, ns, rfl, hS, hn, q⟩ := h
    refine ⟨_, (pss_cons (ps_if (PW.pt (pw_or (pt_cmpR op_ne (pe_half T.ends (by rfl)) pe_str (nomark _)) (pw_or1 (pt_cmpR op_ne (pe_shut T.ends (by rfl)) pe_str (nomark _)))))
      (pss_one (ps_ret pe_bl))
      pss_nil)
      (pss_cons (ps_for PassesOwn.never rfl (pi_range1 (by rfl) B.b_range (pa_cons (pe_callB (call_max2 rfl) (by rfl) B.b_max (by decide +kernel) (pa_cons pe_int (pa_cons (pe_callB call_len_seq (by rfl) B.b_len (by decide +kernel) (pa_cons (pv 0) pa_nil)) pa_nil))) pa_nil)) (pg_name (i := 1) sc_law.nd rfl (Or.inl rfl))
      (pss_cons (ps_set (i := 2) sc_law.nd rfl (Or.inl rfl) (pe_rdy R_l_bag hr (by decide) (by rfl) (pa_cons (pv 0) (pa_cons (pv 1) pa_nil))))
      (pss_cons (ps_set (i := 3) sc_law.nd rfl (Or.inl rfl) (pe_tup (pa_cons (pe_rdy R_l_any_edge hr (by decide) (by rfl) (pa_cons (pv 2) pa_nil)) (pa_cons (pe_rdy R_l_any_edge hr (by decide) (by rfl) (pa_cons (pv 2) pa_nil)) pa_nil))))
      (pss_mid (ps_if (pt_cmpR op_eq (pe_rdy R_l_take hr (by decide) (by rfl) (pa_cons (pv 2) (pa_cons pe_int pa_nil))) pe_int (nomark _))
      (pss_one (ps_set (i := 3) sc_law.nd rfl (Or.inl rfl) (pe_tup (pa_cons (pe_ix ix_tup (pv 3) pe_int (fun _ _ => rfl)) (pa_cons (pe_ix ix_tup (pv 3) pe_int (fun _ _ => rfl)) pa_nil)))))
      pss_nil)
      (pss_one (ps_for PassesOwn.never rfl (pi_range1 (by rfl) B.b_range (pa_cons pe_int pa_nil)) (pg_name (i := 4) sc_law.nd rfl (Or.inl rfl))
      (pss_mid (ps_set (i := 5) sc_law.nd rfl (Or.inl rfl) (pe_ix ix_list (pe_lst (pa_cons pe_str (pa_cons pe_str (pa_cons (pe_rdy R_l_odd_ends hr (by decide) (by rfl) (pa_cons (pv 2) pa_nil)) pa_nil)))) (pv 4) (fun _ _ => rfl)))
      (pss_one (ps_if (pt_not (pt_val (pe_rdyG R_l_right gd hr (by decide) (by rfl) (pa_cons (pv 3) (pa_cons (pe_rdy R_l_some_moment hr (by decide) (by rfl) (pa_cons (pv 2) (pa_cons (pv 3) pa_nil))) (pa_cons (pv 5) pa_nil))))))
      (pss_one (ps_ret pe_bl))
      pss_nil)))))))))
      (pss_one (ps_ret pe_bl)))), ?_⟩
    refine ⟨rfl, _, rfl, iteF ⟨rfl, _, rfl, iteF ?_⟩⟩
    refine ⟨_, rfl, a, _, rfl, .inl hS, _, _, rfl, ?_⟩
    rw [List.length_map]
    obtain ⟨N, eN⟩ : ∃ N : Int, (if (ns.length : Int) > 1 then (ns.length : Int) else 1) = N := ⟨_, rfl⟩
    have hN : 1 ≤ N ∧ N ≤ 63 := by
      subst eN
      (repeat' split) <;> omega
    refine ⟨N, by rw [← eN], by omega, by omega, ?_⟩
    refine for_range (lo := 0) (n := N.toNat) (fun i σ H' => (∃ y1 y2 y3 y4 y5, σ = [some (.ref a), y1, y2, y3, y4, y5]) ∧ Same H H') ⟨⟨_, _, _, _, _, rfl⟩, Same.refl H⟩ ?_ ?_
    · rintro i σ H5 hi ⟨⟨y1, y2, y3, y4, y5, rfl⟩, s5⟩
      refine ⟨_, rfl, _, rfl, a, ns, _, rfl, s5.seq hS, by omega, by omega, fun p H6 np bg6 bt6 => ?_⟩
      refine ⟨_, rfl, p, 0, rfl, bg6, by omega, fun b H7 b0 b1 bg7 bt7 => ?_⟩
      refine ⟨_, rfl, p, _, rfl, bg7, by omega, fun e H8 e0 e1 bg8 bt8 => ?_⟩
      refine ⟨(by show 2 ≤ sizeLine; decide), fun t nt => ?_⟩
      have k9 : Kp p H6 (upd H8 t (.tup [.int b, .int e])) := (bt7.kp.trans bt8.kp).trans (Kp.new nt)
      have bg9 := bg8.same (Same.new (o := .tup [.int b, .int e]) nt)
      have ht9 : (upd H8 t (.tup [.int b, .int e])) t = some (.tup [.int b, .int e]) := upd_same
      generalize upd H8 t (.tup [.int b, .int e]) = H9 at *
      refine ⟨fun σ H' => ∃ t b e, σ = [some (.ref a), some (.int (0 + (i : Int))), some (.ref p), some (.ref t), y4, y5] ∧ H' t = some (.tup [.int b, .int e]) ∧ -10000000000000000000000000000000 ≤ b ∧ b ≤ 10000000000000000000000000000000 ∧ -10000000000000000000000000000000 ≤ e ∧ e ≤ 10000000000000000000000000000000 ∧ BagAt H' p 10 ∧ Kp p H6 H', ?_, ?_⟩
      · refine ⟨_, rfl, p, 4, _, rfl, bg9, by omega, by omega, by omega, fun r H10 r0 r1 bg10 bt10 => ?_⟩
        have ht10 := (bt10 t (bag_not_tup bg9 ht9)).trans ht9
        refine ⟨rfl, _, rfl, ?_⟩
        refine ite2 (fun c => ?_) (fun c => ?_)
        · refine ⟨_, rfl, t, _, _, _, rfl, rfl, SqT.hp ht10, rfl, _, rfl, t, _, _, _, rfl, rfl, SqT.hp ht10, rfl, (by show 2 ≤ sizeLine; decide), fun t2 n2 => ?_⟩
          exact ⟨t2, b, b, rfl, upd_same, b0, b1, b0, b1, (bg10.same (Same.new n2)).mono (by omega), (k9.trans bt10.kp).trans (Kp.new n2)⟩
        · exact ⟨t, b, e, rfl, ht10, b0, b1, e0, e1, bg10.mono (by omega), k9.trans bt10.kp⟩
      rintro σ H11 ⟨t, b, e, rfl, ht, b0, b1, e0, e1, bg11, k11⟩
      refine ⟨3, rfl, by omega, by omega, ?_⟩
      refine for_range (lo := 0) (n := 3) (fun j σ H' => (∃ y4 y5, σ = [some (.ref a), some (.int (0 + (i : Int))), some (.ref p), some (.ref t), y4, y5]) ∧ H' t = some (.tup [.int b, .int e]) ∧ BagAt H' p (10 + 7 * (j : Int)) ∧ Kp p H6 H') ⟨⟨_, _, rfl⟩, ht, bg11.mono (by omega), k11⟩ ?_ ?_
      · rintro j σ H12 hj ⟨⟨z4, z5, rfl⟩, ht12, bg12, k12⟩
        refine ⟨fun σ H' => ∃ w g, σ = [some (.ref a), some (.int (0 + (i : Int))), some (.ref p), some (.ref t), some (.int (0 + (j : Int))), some w] ∧ (∀ H'', Kp p H' H'' → Dp K H'' w g) ∧ OkD g ∧ H' t = some (.tup [.int b, .int e]) ∧ BagAt H' p (10 + 7 * (j : Int) + 1) ∧ Kp p H6 H', ?_, ?_⟩
        · refine ⟨_, rfl, p, _, rfl, bg12, by omega, fun v d H13 dv od _ bg13 kp13 => ?_⟩
          have ht13 := kp13 _ _ (bag_not_tup bg12 ht12) ht12
          refine ⟨(by show 3 ≤ sizeLine; decide), fun l nl => ?_⟩
          have sl := Same.new (o := .lst [.str "half", .str "shut", v]) nl
          have fin : ∀ w g, (∀ H'', Kp p (upd H13 l (.lst [.str "half", .str "shut", v])) H'' → Dp K H'' w g) → OkD g → ∃ w' g, ([some (.ref a), some (.int (0 + (i : Int))), some (.ref p), some (.ref t), some (.int (0 + (j : Int))), some w] : L2.St) = [some (.ref a), some (.int (0 + (i : Int))), some (.ref p), some (.ref t), some (.int (0 + (j : Int))), some w'] ∧ (∀ H'', Kp p (upd H13 l (.lst [.str "half", .str "shut", v])) H'' → Dp K H'' w' g) ∧ OkD g ∧ (upd H13 l (.lst [.str "half", .str "shut", v])) t = some (.tup [.int b, .int e]) ∧ BagAt (upd H13 l (.lst [.str "half", .str "shut", v])) p (10 + 7 * (j : Int) + 1) ∧ Kp p H6 (upd H13 l (.lst [.str "half", .str "shut", v])) :=
            fun w g dw og => ⟨w, g, rfl, dw, og, sl _ _ ht13, bg13.same sl, (k12.trans kp13).trans (Kp.same sl)⟩
          have cs : j = 0 ∨ j = 1 ∨ j = 2 := by omega
          rcases cs with rfl | rfl | rfl
          · exact ⟨_, rfl, l, _, _, _, rfl, rfl, SqL.hp upd_same, rfl, fin _ _ (fun _ _ => .str _) (ok_ends false)⟩
          · exact ⟨_, rfl, l, _, _, _, rfl, rfl, SqL.hp upd_same, rfl, fin _ _ (fun _ _ => .str _) (ok_ends true)⟩
          · exact ⟨_, rfl, l, _, _, _, rfl, rfl, SqL.hp upd_same, rfl, fin _ _ (fun H'' k => dv H'' ((Kp.same sl).trans k)) od⟩
        rintro σ H14 ⟨w, g, rfl, dw, og, ht14, bg14, k14⟩
        refine ⟨_, rfl, _, rfl, _, rfl, p, t, b, e, _, rfl, bg14, by omega, ht14, b0, b1, e0, e1, fun v d H15 dv od bg15 kp15 => ?_⟩
        have ht15 := kp15 _ _ (bag_not_tup bg14 ht14) ht14
        refine ⟨_, rfl, t, b, e, v, w, d, g, rfl, SqT.hp ht15, dv, od, dw _ kp15, og, fun H16 s16 => ⟨_, rfl, iteF ?_⟩⟩
        exact ⟨⟨_, _, rfl⟩, s16 _ _ ht15, (bg15.same s16).mono (by omega), (k14.trans kp15).trans (Kp.same s16)⟩
      · rintro σ H12 ⟨⟨z4, z5, rfl⟩, ht12, bg12, k12⟩
        exact ⟨⟨_, _, _, _, _, rfl⟩, s5.trans (bag_same np bt6 k12)⟩
    · rintro σ H5 ⟨⟨y1, y2, y3, y4, y5, rfl⟩, s5⟩
      exact q H5
end
section
theorem all_mk {l : PySem.W.OpenLaw} {w : World} {K : PySem.W.Frag} {h : Heap} {mg : Str → Option Value} {fa : Addr} {t_FIRST : Tok} {t_LAST : Tok} {CE : Addr} {tE1 tE2 : Tok} {C_BadMoment fI_BadMoment NS_BadMoment : Addr} {nm_BadMoment qn_BadMoment : Str} {bs_BadMoment sub_BadMoment : List Value} {sn_BadMoment : List Str} {ab_BadMoment : Bool} {col_BadMoment : Option Bool} {dd_BadMoment : Option Addr} {m0_BadMoment m1_BadMoment m2_BadMoment m3_BadMoment m5_BadMoment : Option Value} {iod_BadMoment ian_BadMoment : Option Addr} {isl_BadMoment : Array (Option Value)} {ioc_BadMoment ikV_BadMoment idc_BadMoment ipm_BadMoment icd_BadMoment ict_BadMoment : Value} {C_BadEnds fI_BadEnds NS_BadEnds : Addr} {nm_BadEnds qn_BadEnds : Str} {bs_BadEnds sub_BadEnds : List Value} {sn_BadEnds : List Str} {ab_BadEnds : Bool} {col_BadEnds : Option Bool} {dd_BadEnds : Option Addr} {m0_BadEnds m1_BadEnds m2_BadEnds m3_BadEnds m5_BadEnds : Option Value} {iod_BadEnds ian_BadEnds : Option Addr} {isl_BadEnds : Array (Option Value)} {ioc_BadEnds ikV_BadEnds idc_BadEnds ipm_BadEnds icd_BadEnds ict_BadEnds : Value} {f_is_number : Addr} {od_is_number an_is_number : Option Addr} {sl_is_number : Array (Option Value)} {oc_is_number kV_is_number dc_is_number pm_is_number cd_is_number ct_is_number : Value} {f_is_moment : Addr} {od_is_moment an_is_moment : Option Addr} {sl_is_moment : Array (Option Value)} {oc_is_moment kV_is_moment dc_is_moment pm_is_moment cd_is_moment ct_is_moment : Value} {f_check_moment : Addr} {od_check_moment an_check_moment : Option Addr} {sl_check_moment : Array (Option Value)} {oc_check_moment kV_check_moment dc_check_moment pm_check_moment cd_check_moment ct_check_moment : Value} {f_check_ends : Addr} {od_check_ends an_check_ends : Option Addr} {sl_check_ends : Array (Option Value)} {oc_check_ends kV_check_ends dc_check_ends pm_check_ends cd_check_ends ct_check_ends : Value} {f_holds : Addr} {od_holds an_holds : Option Addr} {sl_holds : Array (Option Value)} {oc_holds kV_holds dc_holds pm_holds cd_holds ct_holds : Value} {T_holds : Addr} {o_holds : Obj} {its_holds : List Value} {n_holds : Nat} {f_is_empty : Addr} {od_is_empty an_is_empty : Option Addr} {sl_is_empty : Array (Option Value)} {oc_is_empty kV_is_empty dc_is_empty pm_is_empty cd_is_empty ct_is_empty : Value} {T_is_empty : Addr} {o_is_empty : Obj} {its_is_empty : List Value} {n_is_empty : Nat} {f_l_bag : Addr} {od_l_bag an_l_bag : Option Addr} {sl_l_bag : Array (Option Value)} {oc_l_bag kV_l_bag dc_l_bag pm_l_bag cd_l_bag ct_l_bag : Value} {f_l_take : Addr} {od_l_take an_l_take : Option Addr} {sl_l_take : Array (Option Value)} {oc_l_take kV_l_take dc_l_take pm_l_take cd_l_take ct_l_take : Value} {f_l_edge : Addr} {od_l_edge an_l_edge : Option Addr} {sl_l_edge : Array (Option Value)} {oc_l_edge kV_l_edge dc_l_edge pm_l_edge cd_l_edge ct_l_edge : Value} {f_l_odd_ends : Addr} {od_l_odd_ends an_l_odd_ends : Option Addr} {sl_l_odd_ends : Array (Option Value)} {oc_l_odd_ends kV_l_odd_ends dc_l_odd_ends pm_l_odd_ends cd_l_odd_ends ct_l_odd_ends : Value} {f_l_holds : Addr} {od_l_holds an_l_holds : Option Addr} {sl_l_holds : Array (Option Value)} {oc_l_holds kV_l_holds dc_l_holds pm_l_holds cd_l_holds ct_l_holds : Value} {f_l_any_edge : Addr} {od_l_any_edge an_l_any_edge : Option Addr} {sl_l_any_edge : Array (Option Value)} {oc_l_any_edge kV_l_any_edge dc_l_any_edge pm_l_any_edge cd_l_any_edge ct_l_any_edge : Value} {f_l_some_moment : Addr} {od_l_some_moment an_l_some_moment : Option Addr} {sl_l_some_moment : Array (Option Value)} {oc_l_some_moment kV_l_some_moment dc_l_some_moment pm_l_some_moment cd_l_some_moment ct_l_some_moment : Value} {f_l_is_moment : Addr} {od_l_is_moment an_l_is_moment : Option Addr} {sl_l_is_moment : Array (Option Value)} {oc_l_is_moment kV_l_is_moment dc_l_is_moment pm_l_is_moment cd_l_is_moment ct_l_is_moment : Value} {f_l_empty_asked : Addr} {od_l_empty_asked an_l_empty_asked : Option Addr} {sl_l_empty_asked : Array (Option Value)} {oc_l_empty_asked kV_l_empty_asked dc_l_empty_asked pm_l_empty_asked cd_l_empty_asked ct_l_empty_asked : Value} {f_l_asked : Addr} {od_l_asked an_l_asked : Option Addr} {sl_l_asked : Array (Option Value)} {oc_l_asked kV_l_asked dc_l_asked pm_l_asked cd_l_asked ct_l_asked : Value} {f_l_right : Addr} {od_l_right an_l_right : Option Addr} {sl_l_right : Array (Option Value)} {oc_l_right kV_l_right dc_l_right pm_l_right cd_l_right ct_l_right : Value} {f_law : Addr} {od_law an_law : Option Addr} {sl_law : Array (Option Value)} {oc_law kV_law dc_law pm_law cd_law ct_law : Value} (X : K.In h) (G : h.Ns mainGlobals mg) (hfa : mg "law" = some (.ref fa))
    (z_abs : PySem.W.nsIn K mainGlobals "abs" = some none)
    (z_bool : PySem.W.nsIn K mainGlobals "bool" = some none)
    (z_int : PySem.W.nsIn K mainGlobals "int" = some none)
    (z_isinstance : PySem.W.nsIn K mainGlobals "isinstance" = some none)
    (z_len : PySem.W.nsIn K mainGlobals "len" = some none)
    (z_max : PySem.W.nsIn K mainGlobals "max" = some none)
    (z_range : PySem.W.nsIn K mainGlobals "range" = some none)
    (z_repr : PySem.W.nsIn K mainGlobals "repr" = some none)
    (z_str : PySem.W.nsIn K mainGlobals "str" = some none)
    (c_FIRST : PySem.W.nsIn K mainGlobals "FIRST" = some (some (.int (-10000000000000000000000000000000) t_FIRST)))
    (c_LAST : PySem.W.nsIn K mainGlobals "LAST" = some (some (.int (10000000000000000000000000000000) t_LAST)))
    (e_g : PySem.W.nsIn K mainGlobals "Ends" = some (some (.ref CE)))
    (e_rd : PySem.W.readsIn K CE (.type "type") = true)
    (e_ga : PySem.W.specialIn K (.ref CE) "__getattribute__" = some (some (.builtin "type.__getattribute__")))
    (e_1 : PySem.W.findCls K (.ref CE) (.type "type") "HALF" = some (.val (.str "half" tE1)))
    (e_2 : PySem.W.findCls K (.ref CE) (.type "type") "SHUT" = some (.val (.str "shut" tE2)))
    (eg_BadMoment : PySem.W.nsIn K mainGlobals "BadMoment" = some (some (.ref C_BadMoment)))
    (ex_BadMoment : K.lookup C_BadMoment = some (excClassObj nm_BadMoment qn_BadMoment C_BadMoment NS_BadMoment bs_BadMoment [.type "ValueError", .type "Exception", .type "BaseException", .type "object"] true sn_BadMoment sub_BadMoment ab_BadMoment col_BadMoment dd_BadMoment m0_BadMoment m1_BadMoment m2_BadMoment m3_BadMoment m5_BadMoment "ValueError.__new__"))
    (esa_BadMoment : PySem.W.findIn K (.ref C_BadMoment) "__setattr__" = some (some (.builtin "object.__setattr__")))
    (ega_BadMoment : PySem.W.findIn K (.ref C_BadMoment) "__getattribute__" = some (some (.builtin "BaseException.__getattribute__")))
    (egg_BadMoment : PySem.W.findIn K (.ref C_BadMoment) "__getattr__" = some none)
    (enf_BadMoment : PySem.W.findIn K (.ref C_BadMoment) "moment" = some none)
    (ekC_BadMoment : PySem.W.keepIn K (.ref C_BadMoment) = true)
    (eeC_BadMoment : PySem.W.subIn K (.ref C_BadMoment) (.type "BaseException") = some true)
    (etC_BadMoment : PySem.W.typeIn K (.ref C_BadMoment) = some (.type "type"))
    (ehC_BadMoment : PySem.W.hasDictIn K C_BadMoment = true)
    (eiC_BadMoment : PySem.W.isClsIn K C_BadMoment = true)
    (esC_BadMoment : PySem.W.subIn K (.ref C_BadMoment) (.ref C_BadMoment) = some true)
    (eai_BadMoment : PySem.W.findIn K (.ref C_BadMoment) "__init__" = some (some (.ref fI_BadMoment)))
    (eti_BadMoment : PySem.W.typeIn K (.ref fI_BadMoment) = some (.type "function"))
    (eli_BadMoment : K.lookup fI_BadMoment = some ⟨ioc_BadMoment, iod_BadMoment, .func (PySem.W.fnOf "__init__" "BadMoment.__init__" (defArgs (inClass (topS 1) 0)) (defBody (inClass (topS 1) 0)) (defScope (inClass (topS 1) 0)) .none ikV_BadMoment idc_BadMoment ipm_BadMoment ian_BadMoment icd_BadMoment ict_BadMoment), isl_BadMoment⟩)
    (eci_BadMoment : PySem.W.codeIn K icd_BadMoment "BadMoment.__init__" = true)
    (eki_BadMoment : PySem.W.keepIn K (.ref fI_BadMoment) = true)
    (eg_BadEnds : PySem.W.nsIn K mainGlobals "BadEnds" = some (some (.ref C_BadEnds)))
    (ex_BadEnds : K.lookup C_BadEnds = some (excClassObj nm_BadEnds qn_BadEnds C_BadEnds NS_BadEnds bs_BadEnds [.type "ValueError", .type "Exception", .type "BaseException", .type "object"] true sn_BadEnds sub_BadEnds ab_BadEnds col_BadEnds dd_BadEnds m0_BadEnds m1_BadEnds m2_BadEnds m3_BadEnds m5_BadEnds "ValueError.__new__"))
    (esa_BadEnds : PySem.W.findIn K (.ref C_BadEnds) "__setattr__" = some (some (.builtin "object.__setattr__")))
    (ega_BadEnds : PySem.W.findIn K (.ref C_BadEnds) "__getattribute__" = some (some (.builtin "BaseException.__getattribute__")))
    (egg_BadEnds : PySem.W.findIn K (.ref C_BadEnds) "__getattr__" = some none)
    (enf_BadEnds : PySem.W.findIn K (.ref C_BadEnds) "ends" = some none)
    (ekC_BadEnds : PySem.W.keepIn K (.ref C_BadEnds) = true)
    (eeC_BadEnds : PySem.W.subIn K (.ref C_BadEnds) (.type "BaseException") = some true)
    (etC_BadEnds : PySem.W.typeIn K (.ref C_BadEnds) = some (.type "type"))
    (ehC_BadEnds : PySem.W.hasDictIn K C_BadEnds = true)
    (eiC_BadEnds : PySem.W.isClsIn K C_BadEnds = true)
    (esC_BadEnds : PySem.W.subIn K (.ref C_BadEnds) (.ref C_BadEnds) = some true)
    (eai_BadEnds : PySem.W.findIn K (.ref C_BadEnds) "__init__" = some (some (.ref fI_BadEnds)))
    (eti_BadEnds : PySem.W.typeIn K (.ref fI_BadEnds) = some (.type "function"))
    (eli_BadEnds : K.lookup fI_BadEnds = some ⟨ioc_BadEnds, iod_BadEnds, .func (PySem.W.fnOf "__init__" "BadEnds.__init__" (defArgs (inClass (topS 2) 0)) (defBody (inClass (topS 2) 0)) (defScope (inClass (topS 2) 0)) .none ikV_BadEnds idc_BadEnds ipm_BadEnds ian_BadEnds icd_BadEnds ict_BadEnds), isl_BadEnds⟩)
    (eci_BadEnds : PySem.W.codeIn K icd_BadEnds "BadEnds.__init__" = true)
    (eki_BadEnds : PySem.W.keepIn K (.ref fI_BadEnds) = true)
    (z_ValueError : PySem.W.nsIn K mainGlobals "ValueError" = some none)
    (ic_n : PySem.W.specialIn K (.builtin "object.__class__") "__get__" = some (some (.builtin "getset_descriptor.__get__")))
    (ic_t : PySem.W.takesIn K (.builtin "object.__class__") = some true)
    (ic_a_BadMoment : PySem.W.findIn K (.ref C_BadMoment) "__class__" = some (some (.builtin "object.__class__")))
    (ic_m_BadMoment : PySem.W.mroIn K C_BadMoment (.type "object") = some true)
    (ic_v_BadMoment : PySem.W.subIn K (.ref C_BadMoment) (.type "ValueError") = some true)
    (ic_a_BadEnds : PySem.W.findIn K (.ref C_BadEnds) "__class__" = some (some (.builtin "object.__class__")))
    (ic_m_BadEnds : PySem.W.mroIn K C_BadEnds (.type "object") = some true)
    (ic_v_BadEnds : PySem.W.subIn K (.ref C_BadEnds) (.type "ValueError") = some true)
    (ic_o_BadMoment_BadEnds : PySem.W.subIn K (.ref C_BadMoment) (.ref C_BadEnds) = some false)
    (ic_o_BadEnds_BadMoment : PySem.W.subIn K (.ref C_BadEnds) (.ref C_BadMoment) = some false)
    (a_is_number : PySem.W.nsIn K mainGlobals "is_number" = some (some (.ref f_is_number)))
    (l_is_number : K.lookup f_is_number = some ⟨oc_is_number, od_is_number, .func (PySem.W.fnOf "is_number" "is_number" (defArgs s_is_number) (defBody s_is_number) (defScope s_is_number) .none kV_is_number dc_is_number pm_is_number an_is_number cd_is_number ct_is_number), sl_is_number⟩)
    (c_is_number : PySem.W.codeIn K cd_is_number "is_number" = true)
    (k_is_number : PySem.W.keepIn K (.ref f_is_number) = true)
    (a_is_moment : PySem.W.nsIn K mainGlobals "is_moment" = some (some (.ref f_is_moment)))
    (l_is_moment : K.lookup f_is_moment = some ⟨oc_is_moment, od_is_moment, .func (PySem.W.fnOf "is_moment" "is_moment" (defArgs s_is_moment) (defBody s_is_moment) (defScope s_is_moment) .none kV_is_moment dc_is_moment pm_is_moment an_is_moment cd_is_moment ct_is_moment), sl_is_moment⟩)
    (c_is_moment : PySem.W.codeIn K cd_is_moment "is_moment" = true)
    (k_is_moment : PySem.W.keepIn K (.ref f_is_moment) = true)
    (a_check_moment : PySem.W.nsIn K mainGlobals "check_moment" = some (some (.ref f_check_moment)))
    (l_check_moment : K.lookup f_check_moment = some ⟨oc_check_moment, od_check_moment, .func (PySem.W.fnOf "check_moment" "check_moment" (defArgs s_check_moment) (defBody s_check_moment) (defScope s_check_moment) .none kV_check_moment dc_check_moment pm_check_moment an_check_moment cd_check_moment ct_check_moment), sl_check_moment⟩)
    (c_check_moment : PySem.W.codeIn K cd_check_moment "check_moment" = true)
    (k_check_moment : PySem.W.keepIn K (.ref f_check_moment) = true)
    (a_check_ends : PySem.W.nsIn K mainGlobals "check_ends" = some (some (.ref f_check_ends)))
    (l_check_ends : K.lookup f_check_ends = some ⟨oc_check_ends, od_check_ends, .func (PySem.W.fnOf "check_ends" "check_ends" (defArgs s_check_ends) (defBody s_check_ends) (defScope s_check_ends) .none kV_check_ends dc_check_ends pm_check_ends an_check_ends cd_check_ends ct_check_ends), sl_check_ends⟩)
    (c_check_ends : PySem.W.codeIn K cd_check_ends "check_ends" = true)
    (k_check_ends : PySem.W.keepIn K (.ref f_check_ends) = true)
    (a_holds : PySem.W.nsIn K mainGlobals "holds" = some (some (.ref f_holds)))
    (l_holds : K.lookup f_holds = some ⟨oc_holds, od_holds, .func (PySem.W.fnOf "holds" "holds" (defArgs s_holds) (defBody s_holds) (defScope s_holds) (.ref T_holds) kV_holds dc_holds pm_holds an_holds cd_holds ct_holds), sl_holds⟩)
    (c_holds : PySem.W.codeIn K cd_holds "holds" = true)
    (k_holds : PySem.W.keepIn K (.ref f_holds) = true)
    (T1_holds : K.lookup T_holds = some o_holds)
    (T2_holds : o_holds.data = .seq its_holds.toArray n_holds)
    (T3_holds : Vals [.str "half"] its_holds)
    (a_is_empty : PySem.W.nsIn K mainGlobals "is_empty" = some (some (.ref f_is_empty)))
    (l_is_empty : K.lookup f_is_empty = some ⟨oc_is_empty, od_is_empty, .func (PySem.W.fnOf "is_empty" "is_empty" (defArgs s_is_empty) (defBody s_is_empty) (defScope s_is_empty) (.ref T_is_empty) kV_is_empty dc_is_empty pm_is_empty an_is_empty cd_is_empty ct_is_empty), sl_is_empty⟩)
    (c_is_empty : PySem.W.codeIn K cd_is_empty "is_empty" = true)
    (k_is_empty : PySem.W.keepIn K (.ref f_is_empty) = true)
    (T1_is_empty : K.lookup T_is_empty = some o_is_empty)
    (T2_is_empty : o_is_empty.data = .seq its_is_empty.toArray n_is_empty)
    (T3_is_empty : Vals [.str "half"] its_is_empty)
    (a_l_bag : PySem.W.nsIn K mainGlobals "_law_bag" = some (some (.ref f_l_bag)))
    (l_l_bag : K.lookup f_l_bag = some ⟨oc_l_bag, od_l_bag, .func (PySem.W.fnOf "_law_bag" "_law_bag" (defArgs s_l_bag) (defBody s_l_bag) (defScope s_l_bag) .none kV_l_bag dc_l_bag pm_l_bag an_l_bag cd_l_bag ct_l_bag), sl_l_bag⟩)
    (c_l_bag : PySem.W.codeIn K cd_l_bag "_law_bag" = true)
    (k_l_bag : PySem.W.keepIn K (.ref f_l_bag) = true)
    (a_l_take : PySem.W.nsIn K mainGlobals "_law_take" = some (some (.ref f_l_take)))
    (l_l_take : K.lookup f_l_take = some ⟨oc_l_take, od_l_take, .func (PySem.W.fnOf "_law_take" "_law_take" (defArgs s_l_take) (defBody s_l_take) (defScope s_l_take) .none kV_l_take dc_l_take pm_l_take an_l_take cd_l_take ct_l_take), sl_l_take⟩)
    (c_l_take : PySem.W.codeIn K cd_l_take "_law_take" = true)
    (k_l_take : PySem.W.keepIn K (.ref f_l_take) = true)
    (a_l_edge : PySem.W.nsIn K mainGlobals "_law_edge" = some (some (.ref f_l_edge)))
    (l_l_edge : K.lookup f_l_edge = some ⟨oc_l_edge, od_l_edge, .func (PySem.W.fnOf "_law_edge" "_law_edge" (defArgs s_l_edge) (defBody s_l_edge) (defScope s_l_edge) .none kV_l_edge dc_l_edge pm_l_edge an_l_edge cd_l_edge ct_l_edge), sl_l_edge⟩)
    (c_l_edge : PySem.W.codeIn K cd_l_edge "_law_edge" = true)
    (k_l_edge : PySem.W.keepIn K (.ref f_l_edge) = true)
    (a_l_odd_ends : PySem.W.nsIn K mainGlobals "_law_odd_ends" = some (some (.ref f_l_odd_ends)))
    (l_l_odd_ends : K.lookup f_l_odd_ends = some ⟨oc_l_odd_ends, od_l_odd_ends, .func (PySem.W.fnOf "_law_odd_ends" "_law_odd_ends" (defArgs s_l_odd_ends) (defBody s_l_odd_ends) (defScope s_l_odd_ends) .none kV_l_odd_ends dc_l_odd_ends pm_l_odd_ends an_l_odd_ends cd_l_odd_ends ct_l_odd_ends), sl_l_odd_ends⟩)
    (c_l_odd_ends : PySem.W.codeIn K cd_l_odd_ends "_law_odd_ends" = true)
    (k_l_odd_ends : PySem.W.keepIn K (.ref f_l_odd_ends) = true)
    (a_l_holds : PySem.W.nsIn K mainGlobals "_law_holds" = some (some (.ref f_l_holds)))
    (l_l_holds : K.lookup f_l_holds = some ⟨oc_l_holds, od_l_holds, .func (PySem.W.fnOf "_law_holds" "_law_holds" (defArgs s_l_holds) (defBody s_l_holds) (defScope s_l_holds) .none kV_l_holds dc_l_holds pm_l_holds an_l_holds cd_l_holds ct_l_holds), sl_l_holds⟩)
    (c_l_holds : PySem.W.codeIn K cd_l_holds "_law_holds" = true)
    (k_l_holds : PySem.W.keepIn K (.ref f_l_holds) = true)
    (a_l_any_edge : PySem.W.nsIn K mainGlobals "_law_any_edge" = some (some (.ref f_l_any_edge)))
    (l_l_any_edge : K.lookup f_l_any_edge = some ⟨oc_l_any_edge, od_l_any_edge, .func (PySem.W.fnOf "_law_any_edge" "_law_any_edge" (defArgs s_l_any_edge) (defBody s_l_any_edge) (defScope s_l_any_edge) .none kV_l_any_edge dc_l_any_edge pm_l_any_edge an_l_any_edge cd_l_any_edge ct_l_any_edge), sl_l_any_edge⟩)
    (c_l_any_edge : PySem.W.codeIn K cd_l_any_edge "_law_any_edge" = true)
    (k_l_any_edge : PySem.W.keepIn K (.ref f_l_any_edge) = true)
    (a_l_some_moment : PySem.W.nsIn K mainGlobals "_law_some_moment" = some (some (.ref f_l_some_moment)))
    (l_l_some_moment : K.lookup f_l_some_moment = some ⟨oc_l_some_moment, od_l_some_moment, .func (PySem.W.fnOf "_law_some_moment" "_law_some_moment" (defArgs s_l_some_moment) (defBody s_l_some_moment) (defScope s_l_some_moment) .none kV_l_some_moment dc_l_some_moment pm_l_some_moment an_l_some_moment cd_l_some_moment ct_l_some_moment), sl_l_some_moment⟩)
    (c_l_some_moment : PySem.W.codeIn K cd_l_some_moment "_law_some_moment" = true)
    (k_l_some_moment : PySem.W.keepIn K (.ref f_l_some_moment) = true)
    (a_l_is_moment : PySem.W.nsIn K mainGlobals "_law_is_moment" = some (some (.ref f_l_is_moment)))
    (l_l_is_moment : K.lookup f_l_is_moment = some ⟨oc_l_is_moment, od_l_is_moment, .func (PySem.W.fnOf "_law_is_moment" "_law_is_moment" (defArgs s_l_is_moment) (defBody s_l_is_moment) (defScope s_l_is_moment) .none kV_l_is_moment dc_l_is_moment pm_l_is_moment an_l_is_moment cd_l_is_moment ct_l_is_moment), sl_l_is_moment⟩)
    (c_l_is_moment : PySem.W.codeIn K cd_l_is_moment "_law_is_moment" = true)
    (k_l_is_moment : PySem.W.keepIn K (.ref f_l_is_moment) = true)
    (a_l_empty_asked : PySem.W.nsIn K mainGlobals "_law_empty_asked" = some (some (.ref f_l_empty_asked)))
    (l_l_empty_asked : K.lookup f_l_empty_asked = some ⟨oc_l_empty_asked, od_l_empty_asked, .func (PySem.W.fnOf "_law_empty_asked" "_law_empty_asked" (defArgs s_l_empty_asked) (defBody s_l_empty_asked) (defScope s_l_empty_asked) .none kV_l_empty_asked dc_l_empty_asked pm_l_empty_asked an_l_empty_asked cd_l_empty_asked ct_l_empty_asked), sl_l_empty_asked⟩)
    (c_l_empty_asked : PySem.W.codeIn K cd_l_empty_asked "_law_empty_asked" = true)
    (k_l_empty_asked : PySem.W.keepIn K (.ref f_l_empty_asked) = true)
    (a_l_asked : PySem.W.nsIn K mainGlobals "_law_asked" = some (some (.ref f_l_asked)))
    (l_l_asked : K.lookup f_l_asked = some ⟨oc_l_asked, od_l_asked, .func (PySem.W.fnOf "_law_asked" "_law_asked" (defArgs s_l_asked) (defBody s_l_asked) (defScope s_l_asked) .none kV_l_asked dc_l_asked pm_l_asked an_l_asked cd_l_asked ct_l_asked), sl_l_asked⟩)
    (c_l_asked : PySem.W.codeIn K cd_l_asked "_law_asked" = true)
    (k_l_asked : PySem.W.keepIn K (.ref f_l_asked) = true)
    (a_l_right : PySem.W.nsIn K mainGlobals "_law_right" = some (some (.ref f_l_right)))
    (l_l_right : K.lookup f_l_right = some ⟨oc_l_right, od_l_right, .func (PySem.W.fnOf "_law_right" "_law_right" (defArgs s_l_right) (defBody s_l_right) (defScope s_l_right) .none kV_l_right dc_l_right pm_l_right an_l_right cd_l_right ct_l_right), sl_l_right⟩)
    (c_l_right : PySem.W.codeIn K cd_l_right "_law_right" = true)
    (k_l_right : PySem.W.keepIn K (.ref f_l_right) = true)
    (a_law : PySem.W.nsIn K mainGlobals "law" = some (some (.ref f_law)))
    (l_law : K.lookup f_law = some ⟨oc_law, od_law, .func (PySem.W.fnOf "law" "law" (defArgs s_law) (defBody s_law) (defScope s_law) .none kV_law dc_law pm_law an_law cd_law ct_law), sl_law⟩)
    (c_law : PySem.W.codeIn K cd_law "law" = true)
    (k_law : PySem.W.keepIn K (.ref f_law) = true)
    : ∃ fd : FuncData, (∀ (s : Shared) (v : Value), BindsTo s fd ⟨[v], []⟩ [("_law_script", v)]) ∧ ∀ bh : Heap, K.In bh → bh.Ns mainGlobals mg → FnG l.prog w K mg bh 7 fa fd ["_law_script"] (sp_law K) := by
  have e := hfa.symm.trans (PySem.W.mg_of X G a_law)
  cases e
  have B : Blt mg := ⟨PySem.W.mg_none_of X G z_abs, PySem.W.mg_none_of X G z_bool, PySem.W.mg_none_of X G z_int, PySem.W.mg_none_of X G z_isinstance, PySem.W.mg_none_of X G z_len, PySem.W.mg_none_of X G z_max, PySem.W.mg_none_of X G z_range, PySem.W.mg_none_of X G z_repr, PySem.W.mg_none_of X G z_str⟩
  have T : Txt K mg := ⟨⟨t_FIRST, PySem.W.mg_of X G c_FIRST⟩, ⟨t_LAST, PySem.W.mg_of X G c_LAST⟩, ⟨⟨CE, .type "type", _, _, PySem.W.mg_of X G e_g, ⟨e_rd, e_ga⟩, ⟨e_1, ⟨_, rfl⟩⟩, ⟨e_2, ⟨_, rfl⟩⟩⟩⟩⟩
  have EF_BadMoment : ErrF K C_BadMoment "moment" := ⟨⟨nm_BadMoment, qn_BadMoment, NS_BadMoment, bs_BadMoment, _, sn_BadMoment, sub_BadMoment, ab_BadMoment, col_BadMoment, dd_BadMoment, m0_BadMoment, m1_BadMoment, m2_BadMoment, m3_BadMoment, m5_BadMoment, ex_BadMoment, by decide +kernel⟩, esa_BadMoment, ega_BadMoment, egg_BadMoment, enf_BadMoment, ekC_BadMoment, eeC_BadMoment, etC_BadMoment, ehC_BadMoment, eiC_BadMoment, esC_BadMoment⟩
  have FI_BadMoment := fun_mk (st := inClass (topS 1) 0) eli_BadMoment eci_BadMoment eki_BadMoment
  have bI_BadMoment := FI_BadMoment.binds (ps := ["self", "moment"]) fun _ _ _ _ _ _ us hl => match us, hl with | [_, _], _ => rfl
  have EF_BadEnds : ErrF K C_BadEnds "ends" := ⟨⟨nm_BadEnds, qn_BadEnds, NS_BadEnds, bs_BadEnds, _, sn_BadEnds, sub_BadEnds, ab_BadEnds, col_BadEnds, dd_BadEnds, m0_BadEnds, m1_BadEnds, m2_BadEnds, m3_BadEnds, m5_BadEnds, ex_BadEnds, by decide +kernel⟩, esa_BadEnds, ega_BadEnds, egg_BadEnds, enf_BadEnds, ekC_BadEnds, eeC_BadEnds, etC_BadEnds, ehC_BadEnds, eiC_BadEnds, esC_BadEnds⟩
  have FI_BadEnds := fun_mk (st := inClass (topS 2) 0) eli_BadEnds eci_BadEnds eki_BadEnds
  have bI_BadEnds := FI_BadEnds.binds (ps := ["self", "ends"]) fun _ _ _ _ _ _ us hl => match us, hl with | [_, _], _ => rfl
  have F_is_number := fun_mk (st := s_is_number) l_is_number c_is_number k_is_number
  have b_is_number := F_is_number.binds (ps := ["value"]) fun _ _ _ _ _ _ us hl => match us, hl with | [_], _ => rfl
  have F_is_moment := fun_mk (st := s_is_moment) l_is_moment c_is_moment k_is_moment
  have b_is_moment := F_is_moment.binds (ps := ["value"]) fun _ _ _ _ _ _ us hl => match us, hl with | [_], _ => rfl
  have F_check_moment := fun_mk (st := s_check_moment) l_check_moment c_check_moment k_check_moment
  have b_check_moment := F_check_moment.binds (ps := ["moment"]) fun _ _ _ _ _ _ us hl => match us, hl with | [_], _ => rfl
  have F_check_ends := fun_mk (st := s_check_ends) l_check_ends c_check_ends k_check_ends
  have b_check_ends := F_check_ends.binds (ps := ["ends"]) fun _ _ _ _ _ _ us hl => match us, hl with | [_], _ => rfl
  have F_holds : FunD K "holds" "holds" (defArgs s_holds) (defBody s_holds) (defScope s_holds) [.str "half"] [] f_holds _ := ⟨⟨oc_holds, od_holds, .ref T_holds, kV_holds, dc_holds, pm_holds, an_holds, cd_holds, ct_holds, sl_holds, rfl, l_holds, c_holds, .inr ⟨(fun z => nomatch z), T_holds, o_holds, its_holds, n_holds, rfl, T1_holds, T2_holds, T3_holds⟩, .inl rfl⟩, k_holds⟩
  have b_holds := bindsFull (ps := ["pair", "moment", "ends"]) F_holds (fun z => nomatch z) fun _ _ _ _ _ _ _ us its h1 h2 => match us, its, h1, h2 with | [_, _, _], [_], _, _ => ⟨_, rfl, rfl⟩
  have b1_holds := FunD.binds1 (ps := ["pair", "moment", "ends"]) F_holds 2 0 (fun z => nomatch z) rfl fun _ _ _ _ _ _ _ us its h1 h2 => match us, its, h1, h2 with | [_, _], [_], _, _ => ⟨_, rfl, rfl⟩
  have kw_holds := kwAll (ps := ["pair", "moment", "ends"]) F_holds ["ends", "moment", "pair"] (fun l => List.reverse l) (fun z => nomatch z) vals_rev2 fun _ _ _ _ _ _ _ its ws h1 h2 => match its, ws, h1, h2 with | [_], [_, _, _], _, _ => ⟨_, rfl, rfl⟩
  have F_is_empty : FunD K "is_empty" "is_empty" (defArgs s_is_empty) (defBody s_is_empty) (defScope s_is_empty) [.str "half"] [] f_is_empty _ := ⟨⟨oc_is_empty, od_is_empty, .ref T_is_empty, kV_is_empty, dc_is_empty, pm_is_empty, an_is_empty, cd_is_empty, ct_is_empty, sl_is_empty, rfl, l_is_empty, c_is_empty, .inr ⟨(fun z => nomatch z), T_is_empty, o_is_empty, its_is_empty, n_is_empty, rfl, T1_is_empty, T2_is_empty, T3_is_empty⟩, .inl rfl⟩, k_is_empty⟩
  have b_is_empty := bindsFull (ps := ["pair", "ends"]) F_is_empty (fun z => nomatch z) fun _ _ _ _ _ _ _ us its h1 h2 => match us, its, h1, h2 with | [_, _], [_], _, _ => ⟨_, rfl, rfl⟩
  have b1_is_empty := FunD.binds1 (ps := ["pair", "ends"]) F_is_empty 1 0 (fun z => nomatch z) rfl fun _ _ _ _ _ _ _ us its h1 h2 => match us, its, h1, h2 with | [_], [_], _, _ => ⟨_, rfl, rfl⟩
  have kw_is_empty := kwAll (ps := ["pair", "ends"]) F_is_empty ["ends", "pair"] (fun l => List.reverse l) (fun z => nomatch z) vals_rev2 fun _ _ _ _ _ _ _ its ws h1 h2 => match its, ws, h1, h2 with | [_], [_, _], _, _ => ⟨_, rfl, rfl⟩
  have F_l_bag := fun_mk (st := s_l_bag) l_l_bag c_l_bag k_l_bag
  have b_l_bag := F_l_bag.binds (ps := ["_law_script", "_law_at"]) fun _ _ _ _ _ _ us hl => match us, hl with | [_, _], _ => rfl
  have F_l_take := fun_mk (st := s_l_take) l_l_take c_l_take k_l_take
  have b_l_take := F_l_take.binds (ps := ["_law_bag_here", "_law_many"]) fun _ _ _ _ _ _ us hl => match us, hl with | [_, _], _ => rfl
  have F_l_edge := fun_mk (st := s_l_edge) l_l_edge c_l_edge k_l_edge
  have b_l_edge := F_l_edge.binds (ps := ["_law_bag_here"]) fun _ _ _ _ _ _ us hl => match us, hl with | [_], _ => rfl
  have F_l_odd_ends := fun_mk (st := s_l_odd_ends) l_l_odd_ends c_l_odd_ends k_l_odd_ends
  have b_l_odd_ends := F_l_odd_ends.binds (ps := ["_law_bag_here"]) fun _ _ _ _ _ _ us hl => match us, hl with | [_], _ => rfl
  have F_l_holds := fun_mk (st := s_l_holds) l_l_holds c_l_holds k_l_holds
  have b_l_holds := F_l_holds.binds (ps := ["_law_couple", "_law_when", "_law_mode"]) fun _ _ _ _ _ _ us hl => match us, hl with | [_, _, _], _ => rfl
  have F_l_any_edge := fun_mk (st := s_l_any_edge) l_l_any_edge c_l_any_edge k_l_any_edge
  have b_l_any_edge := F_l_any_edge.binds (ps := ["_law_bag_here"]) fun _ _ _ _ _ _ us hl => match us, hl with | [_], _ => rfl
  have F_l_some_moment := fun_mk (st := s_l_some_moment) l_l_some_moment c_l_some_moment k_l_some_moment
  have b_l_some_moment := F_l_some_moment.binds (ps := ["_law_bag_here", "_law_couple"]) fun _ _ _ _ _ _ us hl => match us, hl with | [_, _], _ => rfl
  have F_l_is_moment := fun_mk (st := s_l_is_moment) l_l_is_moment c_l_is_moment k_l_is_moment
  have b_l_is_moment := F_l_is_moment.binds (ps := ["_law_thing"]) fun _ _ _ _ _ _ us hl => match us, hl with | [_], _ => rfl
  have F_l_empty_asked := fun_mk (st := s_l_empty_asked) l_l_empty_asked c_l_empty_asked k_l_empty_asked
  have b_l_empty_asked := F_l_empty_asked.binds (ps := ["_law_couple", "_law_mode", "_law_way"]) fun _ _ _ _ _ _ us hl => match us, hl with | [_, _, _], _ => rfl
  have F_l_asked := fun_mk (st := s_l_asked) l_l_asked c_l_asked k_l_asked
  have b_l_asked := F_l_asked.binds (ps := ["_law_couple", "_law_when", "_law_mode", "_law_way"]) fun _ _ _ _ _ _ us hl => match us, hl with | [_, _, _, _], _ => rfl
  have F_l_right := fun_mk (st := s_l_right) l_l_right c_l_right k_l_right
  have b_l_right := F_l_right.binds (ps := ["_law_couple", "_law_when", "_law_mode"]) fun _ _ _ _ _ _ us hl => match us, hl with | [_, _, _], _ => rfl
  have F_law := fun_mk (st := s_law) l_law c_law k_law
  refine ⟨PySem.W.fnOf "law" "law" (defArgs s_law) (defBody s_law) (defScope s_law) .none kV_law dc_law pm_law an_law cd_law ct_law, fun s v => .of_eq rfl, fun bh _ _ => ?_⟩
  have E_BadMoment : ErrT l.prog w K mg bh "BadMoment" "moment" C_BadMoment fI_BadMoment _ := EF_BadMoment.errT (PySem.W.mg_of X G eg_BadMoment) eai_BadMoment eti_BadMoment FI_BadMoment bI_BadMoment ⟨rfl, rfl, rfl, by decide +kernel, rfl, by decide +kernel, by decide +kernel⟩ (by rfl) (by decide +kernel) (by decide +kernel) (by rfl) (by rfl)
  have E_BadEnds : ErrT l.prog w K mg bh "BadEnds" "ends" C_BadEnds fI_BadEnds _ := EF_BadEnds.errT (PySem.W.mg_of X G eg_BadEnds) eai_BadEnds eti_BadEnds FI_BadEnds bI_BadEnds ⟨rfl, rfl, rfl, by decide +kernel, rfl, by decide +kernel, by decide +kernel⟩ (by rfl) (by decide +kernel) (by decide +kernel) (by rfl) (by rfl)
  have bV : mg "ValueError" = none := PySem.W.mg_none_of X G z_ValueError
  have I_BadMoment : ErrIs K C_BadMoment C_BadEnds := ⟨EF_BadMoment.excC ic_a_BadMoment ic_n ic_t ic_m_BadMoment, kit_bin (by decide +kernel) ic_v_BadMoment, EF_BadEnds.not ic_o_BadMoment_BadEnds⟩
  have I_BadEnds : ErrIs K C_BadEnds C_BadMoment := ⟨EF_BadEnds.excC ic_a_BadEnds ic_n ic_t ic_m_BadEnds, kit_bin (by decide +kernel) ic_v_BadEnds, EF_BadMoment.not ic_o_BadEnds_BadMoment⟩
  have xEM : PySem.W.exmOne K (.ref C_BadEnds) (.ref C_BadMoment) = some false := EF_BadMoment.exm ic_o_BadEnds_BadMoment
  have R_is_number : Rdy l.prog w K mg bh "is_number" 1 ["value"] (sp_is_number K) f_is_number _ := ⟨ok_is_number B T  F_is_number, PySem.W.mg_of X G a_is_number, k_is_number, b_is_number⟩
  have R_is_moment : Rdy l.prog w K mg bh "is_moment" 2 ["value"] (sp_is_moment K) f_is_moment _ := ⟨ok_is_moment B T R_is_number F_is_moment, PySem.W.mg_of X G a_is_moment, k_is_moment, b_is_moment⟩
  have R_check_moment : RdyX l.prog w K mg bh "check_moment" 3 ["moment"] (sp_check_moment K C_BadMoment) f_check_moment _ := ⟨ok_check_moment B T E_BadMoment R_is_moment F_check_moment, PySem.W.mg_of X G a_check_moment, k_check_moment, b_check_moment⟩
  have R_check_ends : RdyX l.prog w K mg bh "check_ends" 3 ["ends"] (sp_check_ends K C_BadEnds) f_check_ends _ := ⟨ok_check_ends B T E_BadEnds F_check_ends, PySem.W.mg_of X G a_check_ends, k_check_ends, b_check_ends⟩
  have R_holds : RdyXD l.prog w K mg bh "holds" 4 ["pair", "moment", "ends"] [.str "half"] (sp_holds K C_BadMoment C_BadEnds) f_holds _ := ⟨ok_holds B T E_BadMoment E_BadEnds R_check_moment R_check_ends F_holds, PySem.W.mg_of X G a_holds, k_holds, b_holds, b1_holds⟩
  have R_is_empty : RdyXD l.prog w K mg bh "is_empty" 4 ["pair", "ends"] [.str "half"] (sp_is_empty K C_BadEnds) f_is_empty _ := ⟨ok_is_empty B T E_BadEnds R_check_ends F_is_empty, PySem.W.mg_of X G a_is_empty, k_is_empty, b_is_empty, b1_is_empty⟩
  have R_l_bag : Rdy l.prog w K mg bh "_law_bag" 1 ["_law_script", "_law_at"] (sp_l_bag K) f_l_bag _ := ⟨ok_l_bag B T  F_l_bag, PySem.W.mg_of X G a_l_bag, k_l_bag, b_l_bag⟩
  have R_l_take : Rdy l.prog w K mg bh "_law_take" 1 ["_law_bag_here", "_law_many"] (sp_l_take K) f_l_take _ := ⟨ok_l_take B T  F_l_take, PySem.W.mg_of X G a_l_take, k_l_take, b_l_take⟩
  have R_l_edge : Rdy l.prog w K mg bh "_law_edge" 2 ["_law_bag_here"] (sp_l_edge K) f_l_edge _ := ⟨ok_l_edge B T R_l_take F_l_edge, PySem.W.mg_of X G a_l_edge, k_l_edge, b_l_edge⟩
  have R_l_odd_ends : Rdy l.prog w K mg bh "_law_odd_ends" 2 ["_law_bag_here"] (sp_l_odd_ends K) f_l_odd_ends _ := ⟨ok_l_odd_ends B T R_l_take F_l_odd_ends, PySem.W.mg_of X G a_l_odd_ends, k_l_odd_ends, b_l_odd_ends⟩
  have R_l_holds : Rdy l.prog w K mg bh "_law_holds" 1 ["_law_couple", "_law_when", "_law_mode"] (sp_l_holds K) f_l_holds _ := ⟨ok_l_holds B T  F_l_holds, PySem.W.mg_of X G a_l_holds, k_l_holds, b_l_holds⟩
  have R_l_any_edge : Rdy l.prog w K mg bh "_law_any_edge" 3 ["_law_bag_here"] (sp_l_any_edge K) f_l_any_edge _ := ⟨ok_l_any_edge B T R_l_take R_l_edge F_l_any_edge, PySem.W.mg_of X G a_l_any_edge, k_l_any_edge, b_l_any_edge⟩
  have R_l_some_moment : Rdy l.prog w K mg bh "_law_some_moment" 4 ["_law_bag_here", "_law_couple"] (sp_l_some_moment K) f_l_some_moment _ := ⟨ok_l_some_moment B T R_l_take R_l_any_edge F_l_some_moment, PySem.W.mg_of X G a_l_some_moment, k_l_some_moment, b_l_some_moment⟩
  have R_l_is_moment : Rdy l.prog w K mg bh "_law_is_moment" 1 ["_law_thing"] (sp_l_is_moment K) f_l_is_moment _ := ⟨ok_l_is_moment B T  F_l_is_moment, PySem.W.mg_of X G a_l_is_moment, k_l_is_moment, b_l_is_moment⟩
  have R_l_empty_asked : RdyG l.prog w K mg bh "_law_empty_asked" 5 ["_law_couple", "_law_mode", "_law_way"] (sp_l_empty_asked K) f_l_empty_asked _ := ⟨ok_l_empty_asked B T E_BadEnds R_is_empty kw_is_empty F_l_empty_asked, PySem.W.mg_of X G a_l_empty_asked, k_l_empty_asked, b_l_empty_asked⟩
  have R_l_asked : RdyG l.prog w K mg bh "_law_asked" 5 ["_law_couple", "_law_when", "_law_mode", "_law_way"] (sp_l_asked K) f_l_asked _ := ⟨ok_l_asked B bV T E_BadMoment E_BadEnds I_BadMoment I_BadEnds xEM R_holds kw_holds F_l_asked, PySem.W.mg_of X G a_l_asked, k_l_asked, b_l_asked⟩
  have R_l_right : RdyG l.prog w K mg bh "_law_right" 6 ["_law_couple", "_law_when", "_law_mode"] (sp_l_right K) f_l_right _ := ⟨ok_l_right B T R_l_is_moment R_l_holds R_l_asked R_l_empty_asked F_l_right, PySem.W.mg_of X G a_l_right, k_l_right, b_l_right⟩
  exact ok_law B T R_l_bag R_l_take R_l_any_edge R_l_odd_ends R_l_some_moment R_l_right F_law
end
end Spk
open PySem PySem.W PyProof.Rows
set_option maxHeartbeats 0 in
theorem PySem.Challenge.cw_spanloops_k02_pairs_hold_moments_holds : PySem.Challenge.rw_spanloops_k02_pairs_hold_moments.Holds := by
  w_on; o_law; k_head; (case hw => w_witness2)
  k_fill
  refine Spk.walkG (l := PySem.Challenge.rw_spanloops_k02_pairs_hold_moments) (n := 63) (k := 7) (x := "_law_script") (sp := fun w => Spk.sp_law _) rfl (by decide) rfl ⟨rfl, by decide, by decide⟩ (fun w h Y => PySem.W.kIn_of Y) ?F (fun _ _ a ns hl _ hS => ⟨a, ns, rfl, hS, hl, fun _ => rfl⟩)
  case F =>
    intro w mg fa h KX G hmg
    refine' Spk.all_mk KX G hmg ?z_abs ?z_bool ?z_int ?z_isinstance ?z_len ?z_max ?z_range ?z_repr ?z_str ?c_FIRST ?c_LAST ?e_g ?e_rd ?e_ga ?e_1 ?e_2 ?eg_BadMoment ?ex_BadMoment ?esa_BadMoment ?ega_BadMoment ?egg_BadMoment ?enf_BadMoment ?ekC_BadMoment ?eeC_BadMoment ?etC_BadMoment ?ehC_BadMoment ?eiC_BadMoment ?esC_BadMoment ?eai_BadMoment ?eti_BadMoment ?eli_BadMoment ?eci_BadMoment ?eki_BadMoment ?eg_BadEnds ?ex_BadEnds ?esa_BadEnds ?ega_BadEnds ?egg_BadEnds ?enf_BadEnds ?ekC_BadEnds ?eeC_BadEnds ?etC_BadEnds ?ehC_BadEnds ?eiC_BadEnds ?esC_BadEnds ?eai_BadEnds ?eti_BadEnds ?eli_BadEnds ?eci_BadEnds ?eki_BadEnds ?z_ValueError ?ic_n ?ic_t ?ic_a_BadMoment ?ic_m_BadMoment ?ic_v_BadMoment ?ic_a_BadEnds ?ic_m_BadEnds ?ic_v_BadEnds ?ic_o_BadMoment_BadEnds ?ic_o_BadEnds_BadMoment ?a_is_number ?l_is_number ?c_is_number ?k_is_number ?a_is_moment ?l_is_moment ?c_is_moment ?k_is_moment ?a_check_moment ?l_check_moment ?c_check_moment ?k_check_moment ?a_check_ends ?l_check_ends ?c_check_ends ?k_check_ends ?a_holds ?l_holds ?c_holds ?k_holds ?T1_holds ?T2_holds ?T3_holds ?a_is_empty ?l_is_empty ?c_is_empty ?k_is_empty ?T1_is_empty ?T2_is_empty ?T3_is_empty ?a_l_bag ?l_l_bag ?c_l_bag ?k_l_bag ?a_l_take ?l_l_take ?c_l_take ?k_l_take ?a_l_edge ?l_l_edge ?c_l_edge ?k_l_edge ?a_l_odd_ends ?l_l_odd_ends ?c_l_odd_ends ?k_l_odd_ends ?a_l_holds ?l_l_holds ?c_l_holds ?k_l_holds ?a_l_any_edge ?l_l_any_edge ?c_l_any_edge ?k_l_any_edge ?a_l_some_moment ?l_l_some_moment ?c_l_some_moment ?k_l_some_moment ?a_l_is_moment ?l_l_is_moment ?c_l_is_moment ?k_l_is_moment ?a_l_empty_asked ?l_l_empty_asked ?c_l_empty_asked ?k_l_empty_asked ?a_l_asked ?l_l_asked ?c_l_asked ?k_l_asked ?a_l_right ?l_l_right ?c_l_right ?k_l_right ?a_law ?l_law ?c_law ?k_law
    (case z_abs => k_is)
    (case z_bool => k_is)
    (case z_int => k_is)
    (case z_isinstance => k_is)
    (case z_len => k_is)
    (case z_max => k_is)
    (case z_range => k_is)
    (case z_repr => k_is)
    (case z_str => k_is)
    (case c_FIRST => k_is)
    (case c_LAST => k_is)
    (case e_g => k_is)
    (case e_rd => k_is)
    (case e_ga => k_is)
    (case e_1 => k_is)
    (case e_2 => k_is)
    (case eg_BadMoment => k_is)
    (case ex_BadMoment => k_is)
    (case esa_BadMoment => k_is)
    (case ega_BadMoment => k_is)
    (case egg_BadMoment => k_is)
    (case enf_BadMoment => k_is)
    (case ekC_BadMoment => k_is)
    (case eeC_BadMoment => k_is)
    (case etC_BadMoment => k_is)
    (case ehC_BadMoment => k_is)
    (case eiC_BadMoment => k_is)
    (case esC_BadMoment => k_is)
    (case eai_BadMoment => k_is)
    (case eti_BadMoment => k_is)
    (case eli_BadMoment => k_is)
    (case eci_BadMoment => k_is)
    (case eki_BadMoment => k_is)
    (case eg_BadEnds => k_is)
    (case ex_BadEnds => k_is)
    (case esa_BadEnds => k_is)
    (case ega_BadEnds => k_is)
    (case egg_BadEnds => k_is)
    (case enf_BadEnds => k_is)
    (case ekC_BadEnds => k_is)
    (case eeC_BadEnds => k_is)
    (case etC_BadEnds => k_is)
    (case ehC_BadEnds => k_is)
    (case eiC_BadEnds => k_is)
    (case esC_BadEnds => k_is)
    (case eai_BadEnds => k_is)
    (case eti_BadEnds => k_is)
    (case eli_BadEnds => k_is)
    (case eci_BadEnds => k_is)
    (case eki_BadEnds => k_is)
    (case z_ValueError => k_is)
    (case ic_n => k_is)
    (case ic_t => k_is)
    (case ic_a_BadMoment => k_is)
    (case ic_m_BadMoment => k_is)
    (case ic_v_BadMoment => k_is)
    (case ic_a_BadEnds => k_is)
    (case ic_m_BadEnds => k_is)
    (case ic_v_BadEnds => k_is)
    (case ic_o_BadMoment_BadEnds => k_is)
    (case ic_o_BadEnds_BadMoment => k_is)
    (case a_is_number => k_is)
    (case l_is_number => k_is)
    (case c_is_number => k_is)
    (case k_is_number => k_is)
    (case a_is_moment => k_is)
    (case l_is_moment => k_is)
    (case c_is_moment => k_is)
    (case k_is_moment => k_is)
    (case a_check_moment => k_is)
    (case l_check_moment => k_is)
    (case c_check_moment => k_is)
    (case k_check_moment => k_is)
    (case a_check_ends => k_is)
    (case l_check_ends => k_is)
    (case c_check_ends => k_is)
    (case k_check_ends => k_is)
    (case a_holds => k_is)
    (case l_holds => k_is)
    (case c_holds => k_is)
    (case k_holds => k_is)
    (case T1_holds => k_is)
    (case T2_holds => first | rfl | k_is)
    (case T3_holds => exact .cons ⟨_, rfl⟩ .nil)
    (case a_is_empty => k_is)
    (case l_is_empty => k_is)
    (case c_is_empty => k_is)
    (case k_is_empty => k_is)
    (case T1_is_empty => k_is)
    (case T2_is_empty => first | rfl | k_is)
    (case T3_is_empty => exact .cons ⟨_, rfl⟩ .nil)
    (case a_l_bag => k_is)
    (case l_l_bag => k_is)
    (case c_l_bag => k_is)
    (case k_l_bag => k_is)
    (case a_l_take => k_is)
    (case l_l_take => k_is)
    (case c_l_take => k_is)
    (case k_l_take => k_is)
    (case a_l_edge => k_is)
    (case l_l_edge => k_is)
    (case c_l_edge => k_is)
    (case k_l_edge => k_is)
    (case a_l_odd_ends => k_is)
    (case l_l_odd_ends => k_is)
    (case c_l_odd_ends => k_is)
    (case k_l_odd_ends => k_is)
    (case a_l_holds => k_is)
    (case l_l_holds => k_is)
    (case c_l_holds => k_is)
    (case k_l_holds => k_is)
    (case a_l_any_edge => k_is)
    (case l_l_any_edge => k_is)
    (case c_l_any_edge => k_is)
    (case k_l_any_edge => k_is)
    (case a_l_some_moment => k_is)
    (case l_l_some_moment => k_is)
    (case c_l_some_moment => k_is)
    (case k_l_some_moment => k_is)
    (case a_l_is_moment => k_is)
    (case l_l_is_moment => k_is)
    (case c_l_is_moment => k_is)
    (case k_l_is_moment => k_is)
    (case a_l_empty_asked => k_is)
    (case l_l_empty_asked => k_is)
    (case c_l_empty_asked => k_is)
    (case k_l_empty_asked => k_is)
    (case a_l_asked => k_is)
    (case l_l_asked => k_is)
    (case c_l_asked => k_is)
    (case k_l_asked => k_is)
    (case a_l_right => k_is)
    (case l_l_right => k_is)
    (case c_l_right => k_is)
    (case k_l_right => k_is)
    (case a_law => k_is)
    (case l_law => k_is)
    (case c_law => k_is)
    (case k_law => k_is)
