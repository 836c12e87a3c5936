import PyProof.Rows.All
import Wide.All
import OpenK.AllK
import Wide.FinOn
import PySem.Challenge.RW_spanloops_k38_wishes_made
import HandS.ForMost
import HandS.Wide
import HandS.Walk
import HandS.SortRule
import HandS.Defaults
import HandS.IsInst
import HandS.ClsMeth
import HandS.TupLe
import KE.GoesMore
import HandS.MakeKwOnly
import HandS.Property
import KE.KRevSl
import HandS.SortInts
import HandS.More
import HandS.Strs
import HandS.SetFor
import HandS.Rev
import HandS.RevTup
import KE.KDictZip
import KE.KTurns
import HandS.TupAny
import HandS.Text
import HandS.SetBool
import HandS.ForExc
import HandS.TryMany
import HandS.ExcInit
import HandS.ExcField
import HandS.ExcIs
import HandS.CallSlots
import KE.KExcIs
import HandS.Deep
import HandS.Star
import KE.SortKeyHeap
import HandS.GenYield
import KE.KExcInit
import PyProof.ExcBaseAll.OverflowError
import PyProof.ExcBaseAll.LookupError
import PyProof.ExcBaseAll.RuntimeError
import HandS.OwnEq
import KE.KOpsOwn
import HandS.Flow
import HandS.Lambda
import HandS.RaiseMore
import KE.SortData
import HandS.Zip
import PyProof.TupleOfGen
import HandS.Style
import HandS.Small
import KE.KCallOwn
import HandS.FStr
import HandS.SetTxt0
import HandS.GenList
import HandS.EndTab
import KE.KNestM
import HandS.ListItems
import HandS.StrMore
import KE.KxField
import PyProof.LongRange
import KE.GoesEnumKw
import PyProof.Rows.CallKwBuiltin
import KE.OsRunLaw
set_option Elab.async false
set_option linter.all false
set_option maxRecDepth 100000
set_option maxHeartbeats 4000000
namespace Spk
open PySem PySem.W PyProof.Rows
theorem split3 {S A B C : Type} {o : Option S} {f : S → A} {g : S → B} {h : S → C} {a : A} {b : B} {c : C} (h1 : o.map f = some a) (h2 : o.map g = some b) (h3 : o.map h = some c) : o.map (fun s => (f s, g s, h s)) = some (a, b, c) := by
  cases o with
  | none => cases h1
  | some s => cases h1; cases h2; cases h3; rfl
/-- what is seen, in five parts: each by a run of its own, so that no one check holds all -/
theorem seen_parts {S A B C D E' F' R : Type} {o : Option S} {F : S → A × B × C × D × E' × F' × R} {G : A × B × C × D × E' × F' × R}
    (h1 : o.map (fun s => match F s with | (a0, _) => a0) = some G.1)
    (h2 : o.map (fun s => match F s with | (_, a1, a2, _) => (a1, a2)) = some (G.2.1, G.2.2.1))
    (h3 : o.map (fun s => match F s with | (_, _, _, a3, _) => a3) = some G.2.2.2.1)
    (h4 : o.map (fun s => match F s with | (_, _, _, _, a4, a5, _) => (a4, a5)) = some (G.2.2.2.2.1, G.2.2.2.2.2.1))
    (h5 : o.map (fun s => match F s with | (_, _, _, _, _, _, r) => r) = some G.2.2.2.2.2.2) : o.map F = some G := by
  cases o with
  | none => cases h1
  | some s =>
    simp only [Option.map_some, Option.some.injEq] at *
    generalize F s = X at *
    obtain ⟨a0, a1, a2, a3, a4, a5, r⟩ := X
    obtain ⟨b0, b1, b2, b3, b4, b5, r'⟩ := G
    simp only [Prod.mk.injEq] at *
    obtain ⟨rfl, rfl⟩ := h2
    obtain ⟨rfl, rfl⟩ := h4
    subst h1 h3 h5
    exact ⟨rfl, rfl, rfl, rfl, rfl, rfl, rfl⟩
abbrev hdP : Program := PySem.Challenge.rw_spanloops_k38_wishes_made.row.prog
def hdQ : Program := { hdP with main := { hdP.main with body := ([0, 2, 3, 4, 5, 6, 7, 8, 9, 10, 11, 12, 14, 15, 16, 17, 18, 19, 20, 21, 22, 23, 24, 26, 29, 30, 31, 32, 33, 35, 36, 37, 38, 39, 40, 41, 42, 43, 44, 45, 47, 48, 49, 50, 51, 53, 54, 55, 56, 57, 58, 59, 60, 61, 62, 64, 65, 66, 67, 68, 69, 70, 71, 72, 73, 74, 76, 77, 78, 79, 80, 81, 82, 83, 85, 86, 87, 88, 89, 90, 91, 92] : List Nat).filterMap fun i => hdP.main.body[i]? } }
def hdL : List Str := [Str.ofString "FIRST", Str.ofString "LAST", Str.ofString "FAR", Str.ofString "Ends", Str.ofString "is_empty", Str.ofString "union", Str.ofString "Moments", Str.ofString "Answer", Str.ofString "Number", Str.ofString "Rule", Str.ofString "Loop"]
def hdX (s : Shared) : Bool := xlAt hdQ [(PySem.Str.ofString "FIRST", WData.int (-10000000000000000000000000000000)), (PySem.Str.ofString "LAST", WData.int 10000000000000000000000000000000), (PySem.Str.ofString "FAR", WData.int 1000000000000000000000000000000)] s && recOk PySem.Challenge.rw_spanloops_k38_wishes_made.row.records s
noncomputable def hdO (w : World) (os : OsState) : Option SharedT := HeadRun.endF (HeadRun.stepQ (HeadRun.denQ HeadRun.tabQ) hdP w) 16684 hdP w os
theorem head_l (w : World) (os : OsState) : (hdO w os).map (fun s => HeadRun.looksF hdP (boot_heap w.params) s.abs) = some true := by kernel_rfl
theorem head_s1 (w : World) (os : OsState) : (hdO w os).map (fun s => match HeadRun.seenQ hdQ hdL (importedModules hdP.main.body) hdX s.abs with | (a0, _) => a0) = some (openGood hdQ hdL).1 := by kernel_rfl
theorem head_s2 (w : World) (os : OsState) : (hdO w os).map (fun s => match HeadRun.seenQ hdQ hdL (importedModules hdP.main.body) hdX s.abs with | (_, a1, a2, _) => (a1, a2)) = some ((openGood hdQ hdL).2.1, (openGood hdQ hdL).2.2.1) := by kernel_rfl
theorem head_s3 (w : World) (os : OsState) : (hdO w os).map (fun s => match HeadRun.seenQ hdQ hdL (importedModules hdP.main.body) hdX s.abs with | (_, _, _, a3, _) => a3) = some (openGood hdQ hdL).2.2.2.1 := by kernel_rfl
theorem head_s4 (w : World) (os : OsState) : (hdO w os).map (fun s => match HeadRun.seenQ hdQ hdL (importedModules hdP.main.body) hdX s.abs with | (_, _, _, _, a4, a5, _) => (a4, a5)) = some ((openGood hdQ hdL).2.2.2.2.1, (openGood hdQ hdL).2.2.2.2.2.1) := by kernel_rfl
theorem head_s5 (w : World) (os : OsState) : (hdO w os).map (fun s => match HeadRun.seenQ hdQ hdL (importedModules hdP.main.body) hdX s.abs with | (_, _, _, _, _, _, r) => r) = some (openGood hdQ hdL).2.2.2.2.2.2 := by kernel_rfl
theorem head_s (w : World) (os : OsState) : (hdO w os).map (fun s => HeadRun.seenQ hdQ hdL (importedModules hdP.main.body) hdX s.abs) = some (openGood hdQ hdL) :=
  seen_parts (head_s1 w os) (head_s2 w os) (head_s3 w os) (head_s4 w os) (head_s5 w os)
end Spk
section
open PySem PySem.W PyProof.Rows
local macro_rules | `(tactic| k_head) => `(tactic| k_headL)
local macro_rules | `(tactic| kernel_rfl) => `(tactic| (rename_i w os; with_reducible refine Spk.split3 (Eq.trans ?_ (Spk.head_l w os)) ((Eq.trans ?_ (Spk.head_s w os)).trans ?_) ?_ <;> kernel_rfl))
set_option maxHeartbeats 0 in
open_top Spk.topOf for PySem.Challenge.rw_spanloops_k38_wishes_made
end
namespace Spk
open PySem PySem.Spec PyProof.Rows L2
/-! Defs that are run where no repr is under way: the layer's rule of a def, with that known of the place. -/
structure FnG (P : Program) (w : World) (K : PySem.W.Frag) (mg : Str → Option Value) (bh : Heap) (k : Nat) (f : Addr) (fd : FuncData) (ps : List Str) (sp : Sp) : Prop where
  lenG : ∀ ws J R U, sp ws J R U → ws.length = ps.length
  runG : ∀ (B : Around) (ou : List Env) (t : Shared) (J : Hp) (ar : Args) (xs : List Value) (ws : List V) (R : VK) (U : XK), B.guards = some [] → Room k B →
    Env0 P w K mg bh B ou t J → BindsTo t fd ar (ps.zip xs) → Vals ws xs → sp ws J R U →
    codeAny (model P w) B (.call (.ref f) ar) (CR CX0 ou P w J t R U) t
section
variable {P : Program} {w : World} {K : PySem.W.Frag} {mg : Str → Option Value} {bh : Heap}
theorem fnG_of {k : Nat} {f : Addr} {nm qu : Str} {pr : Arguments} {bd : List Stmt} {sc : Scope} {v1 v2 v3 v4 v5 v6 v7 : Value} {o1 o2 : Option Addr}
    {sl : Array (Option Value)} {N ps : List Str} {sp : Sp}
    (lk : K.lookup f = some ⟨v7, o2, .func (PySem.W.fnOf nm qu pr bd sc v1 v2 v3 v4 o1 v5 v6), sl⟩)
    (hcd : PySem.W.codeIn K v5 qu = true) (S : FnScope N ps sc)
    (ln : ∀ ws J R U, sp ws J R U → ws.length = ps.length)
    (hb : ∀ (B : Around) (ou : List Env) (t : Shared) (J : Hp) (ws : List V) (R : VK) (U : XK), B.guards = some [] →
      Room k (B.deeper (envOfC qu sc t.heap.objs.size f v5)) → sp ws J R U →
      ∃ tr, PSs (cxOf CX0 P w K mg bh N qu sc f v5 B ou t J U) bd tr ∧ tr { nx := fun _ J' => R .non J', rt := R } (L2.start N ws) J) :
    FnG P w K mg bh (k + 1) f (PySem.W.fnOf nm qu pr bd sc v1 v2 v3 v4 o1 v5 v6) ps sp := by
  refine ⟨ln, fun B ou t J ar xs ws R U hgd rm e0 bi rl hsp => ?_⟩
  have hlen := ln _ _ _ _ hsp
  have kin : K.In t.heap := e0.mod.kin.keeps fun z y q => (e0.bs z y q).1
  have nol : t.heap.NoLimit := e0.mod.nolimit.keeps fun z y q => (e0.bs z y q).1
  refine codeAny_call_function rm.depth (kin _ _ lk) rfl S.co S.gen rfl (PySem.W.codeRec_of kin hcd) (bi _ _ _ _ ?_)
  refine wpAny_newFunctionEnv_cells S.kind ?_ fun en hen s1 ic => ?_
  · rintro ⟨n, v⟩ hy
    exact (S.par n (List.of_mem_zip hy).1).imp id fun q => ⟨q, PySem.W.cellsFrom_some _ _ _ (.inl q)⟩
  · subst hen
    refine ⟨nol.keeps ic.toInCall.keep, codeAny_func ?_⟩
    obtain ⟨tr, htr, hq⟩ := hb B ou t J ws R U hgd (rm.deeper _) hsp
    have iv : Inv (cxOf CX0 P w K mg bh N qu sc f v5 B ou t J U) [] (L2.start N ws) J s1 := inv_start S rm.hd e0 hlen rl ic
    refine wpAny_mono (htr.run [] s1 (L2.start N ws) J _ iv hq) (fun fl s2 hs => ?_) fun _ _ hs => hs
    cases fl with
    | ret u =>
      obtain ⟨v, _, J', I', rv, q⟩ := hs
      exact ⟨v, J', I'.os, I'.bare, I'.base, I'.hok, rv, q⟩
    | next =>
      obtain ⟨_, J', I', q⟩ := hs
      exact ⟨.non, J', I'.os, I'.bare, I'.base, I'.hok, rfl, q⟩
    | brk => exact hs.elim fun _ h => h.elim fun _ h => h.2.elim
    | cont => exact hs.elim fun _ h => h.elim fun _ h => h.2.elim
theorem Fun.okG {x qu : Str} {st : Stmt} {f : Addr} {fd : FuncData} {N ps : List Str} {k : Nat} {sp : Sp} (F : Fun K x qu st f fd) (S : FnScope N ps (defScope st))
    (ln : ∀ ws J R U, sp ws J R U → ws.length = ps.length)
    (hb : ∀ (cv : Value) (B : Around) (ou : List Env) (t : Shared) (J : Hp) (ws : List V) (R : VK) (U : XK), B.guards = some [] →
      Room k (B.deeper (envOfC qu (defScope st) t.heap.objs.size f cv)) → sp ws J R U →
      ∃ tr, PSs (cxOf CX0 P w K mg bh N qu (defScope st) f cv B ou t J U).nox (defBody st) tr ∧ tr { nx := fun _ J' => R .non J', rt := R } (L2.start N ws) J) :
    FnG P w K mg bh (k + 1) f fd ps sp := by
  obtain ⟨_, _, _, _, _, _, cv, _, _, rfl, lk, hcd⟩ := F.ex
  refine fnG_of lk hcd S ln fun B ou t J ws R U hgd rm hsp => ?_
  obtain ⟨tr, h, q⟩ := hb cv B ou t J ws R U hgd rm hsp
  exact ⟨tr, h.nox, q⟩
end
end Spk
namespace Spk
open PySem PySem.Spec PyProof.Rows L2
open AutoSeq1 (wpAny_loadPart')
theorem enumT_new (t : Addr) (its : Array Value) (n : Nat) (dct : Option Addr) (sl : Array (Option Value)) :
    Meets (Builtin.«enumerate.__new__» ⟨[.type "enumerate", .ref t], []⟩) (fun _ R s => s.heap.get? t = some { cls := .type "tuple", dict := dct, data := .seq its n, slots := sl } ∧
      R (.ok (.ret (.ref (s.heap.push { cls := .type "tuple_iterator", data := .fields #[.ref t, .int 0 0] }).objs.size)))
        { s with heap := (s.heap.push { cls := .type "tuple_iterator", data := .fields #[.ref t, .int 0 0] }).push { cls := .type "enumerate", data := .fields #[.none, .bool false, .ref s.heap.objs.size, rawInt 0, .none, .none] } }) :=
  .of_wp fun prog w A R s h => by
    obtain ⟨hp, g, d, tk, os⟩ := s; obtain ⟨ht, h⟩ := h
    have hsub := sub_enumerate
    have hT : Heap.IsTuple (Shared.heap ⟨hp, g, d, tk, os⟩) t its := ⟨_, ht, rfl, n, rfl⟩
    wp_walk using wpAny_loadPart' ht
    refine wpAny_stack_any fun st => wpAny_pure ?_
    split
    · rename_i c _ _ _ _ _
      cases (c == Value.type "enumerate") <;> (wp_walk using wpAny_loadPart' ht, wpAny_pyIter_tuple hT; exact ⟨_, rfl, h⟩)
    · wp_walk using wpAny_loadPart' ht, wpAny_pyIter_tuple hT
      exact ⟨_, rfl, h⟩
theorem mem2 {α : Type} {b x y : α} (h : b ∈ [x, y]) : b = x ∨ b = y := by simpa using h
section
variable {prog : Program} {w : World} {A : Around} {E : Value → Shared → Prop} {s : Shared}
theorem enumT_call {t : Addr} {its : Array Value} {Q : Value → Shared → Prop} (hT : s.heap.IsTuple t its)
    (h : ∀ g, IsEnum g (s.heap.objs.size + 1) s.heap.objs.size 0 .none → g.IsTupleIter s.heap.objs.size t 0 → g.objs.size = s.heap.objs.size + 2 →
      (∀ b o, s.heap.get? b = some o → g.get? b = some o) → Q (.ref (s.heap.objs.size + 1)) { s with heap := g }) :
    wpAny (model prog w) A (call (.type "enumerate") [.ref t]) Q E s := by
  obtain ⟨⟨c, dct, dt, sl⟩, ht, hc, n, hd⟩ := hT
  obtain rfl : c = .type "tuple" := hc
  obtain rfl : dt = .seq its n := hd
  refine callType_new F.called_enumerate (by decide) (F.typeCall_enumerate_1 _) (F.newCall_enumerate_1 _) (fun ob => F.args_object_init_2 ob _) F.entry_enumerate_new (enumT_new t its n dct sl) ⟨ht, ?_⟩
  have hz : (s.heap.push { cls := .type "tuple_iterator", data := .fields #[.ref t, .int 0 0] }).objs.size = s.heap.objs.size + 1 := Heap.size_push ..
  show _ ∧ _
  rw [hz]
  have he : IsEnum ((s.heap.push { cls := .type "tuple_iterator", data := .fields #[.ref t, .int 0 0] }).push
      { cls := .type "enumerate", data := .fields #[.none, .bool false, .ref s.heap.objs.size, rawInt 0, .none, .none] }) (s.heap.objs.size + 1) s.heap.objs.size 0 .none := by
    have q := Heap.get?_push_size (s.heap.push { cls := .type "tuple_iterator", data := .fields #[.ref t, .int 0 0] })
      (o := { cls := .type "enumerate", data := .fields #[.none, .bool false, .ref s.heap.objs.size, rawInt 0, .none, .none] }) rfl
    rw [hz] at q; exact q
  exact ⟨⟨_, he, rfl⟩, h _ he ⟨_, Heap.get?_push_of_some _ (Heap.get?_push_size _ rfl), rfl, rfl⟩ (by rw [Heap.size_push, hz]) fun b o q => Heap.get?_push_of_some _ (Heap.get?_push_of_some _ q)⟩
end
/-- enumerate(tuple): each item in a new pair -/
def ItE (K : PySem.W.Frag) (a : Addr) : It where
  go := fun i H => ∃ (xs : List V) (x : V), SqT K H a xs ∧ xs[i]? = some x
  yld := fun i H v H' => ∃ T x, v = .ref T ∧ H T = none ∧ H' = upd H T (.tup [.int (i : Nat), x]) ∧ ∀ xs, SqT K H a xs → xs[i]? = some x
  stop := fun i H => ∃ xs : List V, SqT K H a xs ∧ xs.length ≤ i
theorem turnE {P : Program} {w : World} {K : PySem.W.Frag} {elts : List Expr} {kk : Nat} {tpos : Pos} (a e it : Addr) (hai : a ≠ it) (hae : e ≠ a) :
    Turn P w K (.Tuple elts kk tpos) (ItE K a) [e, it] e (fun i h => (∃ old, IsEnum h e it ((i : Nat) : Int) old) ∧ h.IsTupleIter it a i ∧ e ≠ it) where
  mem := List.mem_cons_self
  obj := by
    rintro i h ⟨⟨old, he⟩, ⟨o, ho, hc, hd⟩, _⟩ b hb
    rcases mem2 hb with rfl | rfl
    · exact ⟨_, he, fun v q => nomatch q⟩
    · exact ⟨o, ho, fun v q => by rw [hd] at q; cases q⟩
  keep := by
    rintro i h h' ⟨⟨old, he⟩, hi, hne⟩ k
    exact ⟨⟨old, k e (by simp) _ he⟩, hi.at fun o q => k it (by simp) o q, hne⟩
  item := by
    intro X hP hw hK hc i pins s σ H E I hf st hg
    subst hP hw hK
    obtain ⟨⟨old, he⟩, hit, hne⟩ := st
    obtain ⟨xs, x, hq, hx⟩ := hg
    obtain ⟨its, rv, p, hz⟩ := I.tuple hq
    obtain ⟨u, hu, ru⟩ := rv.get hx
    have hu' : its.toArray[i]? = some u := by simpa using hu
    have hlt : i < its.toArray.size := by
      obtain ⟨h1, _⟩ := Array.getElem?_eq_some_iff.mp hu'
      exact h1
    have hT : s.heap.IsTuple a its.toArray := p
    have hel : e < s.heap.objs.size := Heap.lt_size he
    have hil : it < s.heap.objs.size := by obtain ⟨_, q, _⟩ := hit; exact Heap.lt_size q
    have D := Draws.tuple (prog := X.prog) (w := X.w) (A := X.A.in1) (I.ok.hd hc) it a hai its.toArray
    refine wpAny_pyNext_enum_itemD D he ⟨hit, hT⟩ hlt hne (fun hm => ?_) fun y g tk hy ho hst hTp hsz hk => ?_
    · rcases mem2 hm with z | z
      · exact hne z
      · exact hae z
    · obtain rfl : u = y := Option.some.inj (hu'.symm.trans hy)
      refine ⟨_, rfl, wpAny_letOwnedTupleGo_enum (s := { s with heap := g, toks := tk + 1 }) ho fun g2 he2 sb => ?_⟩
      have hT2 : g2.get? s.heap.objs.size = some { cls := .type "tuple", data := .seq #[.int i tk, u] } := (sb.2 _ (Nat.ne_of_gt hel)).trans hTp
      have new : ObjOk X.prog X.w (upd H s.heap.objs.size (.tup [.int (i : Nat), x])) g2 s.heap.objs.size (.tup [.int (i : Nat), x]) :=
        ⟨by show 2 ≤ sizeLine; decide, [.int i tk, u], .cons ⟨_, rfl⟩ (.cons ru .nil), ⟨_, hT2, rfl, _, rfl⟩⟩
      have I1 : Inv X pins σ (upd H s.heap.objs.size (.tup [.int (i : Nat), x])) { s with heap := g2, toks := tk + 1 } := by
        refine I.turnedNew (ch := [e, it]) (fun b ob hb q => ?_) hf (Nat.le_refl _) new
        have n1 : b ≠ e := fun z => hb (by simp [z])
        have n2 : b ≠ it := fun z => hb (by simp [z])
        exact (sb.2 b n1).trans (hk b ob n1 n2 q)
      refine ⟨.ref s.heap.objs.size, _, I1, rfl, ⟨_, x, rfl, I.hok.fresh (Nat.le_refl _), rfl, fun ys hy => by rw [I.tuple_inj hy hq]; exact hx⟩, ⟨⟨u, ?_⟩, hst.1.at fun o q => (sb.2 it (Ne.symm hne)).trans q, hne⟩, fun b hb => ?_⟩
      · have e1 : ((i + 1 : Nat) : Int) = (i : Int) + 1 := by omega
        rw [e1]; exact he2
      · have hlb : b < s.heap.objs.size := by rcases mem2 hb with rfl | rfl <;> assumption
        exact (upd_ne (Nat.ne_of_lt hlb)).trans (hf b hb).1
  done := by
    intro X hP hw hK hc i pins s σ H E I hf st hg
    subst hP hw hK
    obtain ⟨⟨old, he⟩, hit, hne⟩ := st
    obtain ⟨xs, hq, hx⟩ := hg
    obtain ⟨its, rv, p, hz⟩ := I.tuple hq
    obtain ⟨f0, f1, f2, f3, f4, f5⟩ := hf it (by simp)
    have hT : s.heap.IsTuple a its.toArray := p
    have hl := rv.length
    have hT2 : its.toArray[i]? = none := by simp; omega
    refine (show wpAny (model X.prog X.w) X.A (pyNext (.ref e)) _ E s from ?_)
    have hTy : s.TypeIs (.ref e) "enumerate" := ⟨_, he, rfl⟩
    unfold pyNext
    refine wpAny_bind (wpAny_attempt (wpAny_callSpecial?_slot (name := Str.ofString "__next__") hTy F.slot_enumerate_next
      (wpAny_call_entry F.slot_enumerate_next hTy F.entry_enumerate_next ?_ (F.args_enumerate_next_1 _))))
    show wpAny _ _ (field (.ref e) 2 >>= _) _ _ _
    refine wpAny_bind (wpAny_field he rfl (x := .ref it) rfl ?_)
    refine wpAny_bind (wpAny_nextOf_tuple_end (I.ok.hd hc) hit hT hT2 fun g x eb hx' => ?_)
    obtain ⟨o, ho, hcl⟩ := hx'
    refine wpAny_bind (wpAny_isInstance (T := "StopIteration") (b := true) ⟨o, ho, hcl⟩ isSubtype_stop ?_)
    exact wpAny_pure ⟨rfl, I.turned (t' := s.toks) (fun b o hb q => eb b o hb q) f0 f1 f3 f4 f5⟩
  self := by
    rintro A i s Q E ⟨⟨_, he⟩, _⟩ h
    exact wpAny_pyIter_enum he h
theorem walkE {K : PySem.W.Frag} {a : Addr} {xs : List V} : Walk (ItE K a) xs.length (fun H => SqT K H a xs) (YPair (fun i => some (.int (i : Nat))) (fun i => xs[i]?)) where
  goes := fun i _ hi q => ⟨xs, xs[i], q, by simp [hi]⟩
  stops := fun _ q => ⟨xs, q, Nat.le_refl _⟩
  yields := by
    rintro i H v H' _ q ⟨T, x, h1, h2, h3, h4⟩
    exact ⟨T, .int (i : Nat), x, h1, h2, h3, rfl, h4 xs q⟩
end Spk
namespace Spk
open PySem PySem.Spec PyProof.Rows L2
section
variable {P : Program} {w : World} {K : PySem.W.Frag} {mg mb : Str → Option Value} {k : Nat} {fa a : Addr} {fd : FuncData} {x : Str} {sp : Sp} {t : Shared} {zs : List Value} {ns : List Int}
def Fin1 (t : Shared) (r : Result) (u : Shared) : Prop := r = .ok (.ret (.bool true)) ∧ OldK t.heap u.heap ∧ u.os = t.os ∧ AllBare u.gens
/-- the law's call, from a heap that tracks nothing but the script (or nothing) -/
theorem coreG {J : Hp} (KX : K.In t.heap) (hns : t.heap.Ns mainGlobals mg) (hb : t.heap.Ns builtinsNs mb) (hbb : ∀ y : Str, y ≠ "__name__" → mb y = bootBuiltins y) (hlim : t.heap.NoLimit) (hg : t.gens = #[])
    (ha : t.heap.get? a = some { cls := .type "list", data := .seq zs.toArray }) (rm : Room k callerA)
    (F : ∀ bh : Heap, K.In bh → bh.Ns mainGlobals mg → FnG P w K mg bh k fa fd [x] sp) (bi : ∀ (s : Shared) (u : Value), BindsTo s fd ⟨[u], []⟩ [(x, u)])
    (hO : Only J) (hok : HOk P w J t.heap) (hA : ∀ b, J b ≠ none → b = a) (hK : J a ≠ none → K.lookup a = none)
    (hsp : sp [.ref a] J (fun v _ => v = .bl true) E0) : codeAny (model P w) callerA (.call (.ref fa) ⟨[.ref a], []⟩) (Fin1 t) t := by
  have gone : ∀ b o es ep, t.heap.get? b = some o → o.data = .dict es ep → J b = none := by
    intro b o es ep e d
    cases q : J b with
    | none => rfl
    | some u =>
      obtain rfl : b = a := hA b (by rw [q]; exact fun z => nomatch z)
      obtain rfl : _ = o := Option.some.inj (ha.symm.trans e)
      exact nomatch (show Data.seq zs.toArray _ = Data.dict es ep from d)
  have ns' : ∀ b m, t.heap.Ns b m → (hidT t.heap J).Ns b m := by
    rintro b m ⟨o, es, ep, e, d, r⟩
    exact ⟨o, es, ep, hidT_get e (gone b o es ep e d), d, r⟩
  have kb : K.In (hidT t.heap J) := by
    intro b o e
    refine hidT_get (KX b o e) ?_
    cases q : J b with
    | none => rfl
    | some u =>
      obtain rfl : b = a := hA b (by rw [q]; exact fun z => nomatch z)
      exact absurd e (by rw [hK (by rw [q]; exact fun z => nomatch z)]; exact fun z => nomatch z)
  have md : Mod K mg (hidT t.heap J) := ⟨kb, ns' _ _ hns, ⟨mb, ns' _ _ hb, hbb⟩, hlim.imp fun mc h => ⟨ns' _ _ h.1, h.2⟩⟩
  have e0 : Env0 P w K mg (hidT t.heap J) callerA [] t J :=
    { frames := rfl, mod := md, bs := fun _ _ e => of_hidT e, bsz := Nat.le_of_eq (hidT_size _ _), funs := trivial, frf := (fun _ h => nomatch h), hok := hok, bare := .of_eq hg }
  refine codeAny_mono ((F _ kb (ns' _ _ hns)).runG callerA [] t J ⟨[.ref a], []⟩ [.ref a] [.ref a] _ E0 rfl rm e0 (bi t (.ref a)) (.cons rfl .nil) hsp) fun r u h => ?_
  match r, h with
  | .ok (.ret y), h =>
    obtain ⟨v, J', os, bare, un, hok', ry, q⟩ := h
    obtain rfl : v = .bl true := q
    obtain rfl : y = Value.bool true := ry
    refine ⟨rfl, OldK.of_keep fun b o e => ?_, os, bare⟩
    rcases hO b with z | ⟨ob, xs, z⟩
    · exact un.keep b o e z (fun h => nomatch h) (fun h => nomatch h)
    · have e1 := (hok b _ z).1
      have e2 := (hok' b _ (un.frzs b ob _ z)).1
      exact e2.trans (e1.symm.trans e)
theorem lawG (KX : K.In t.heap) (hns : t.heap.Ns mainGlobals mg) (hb : t.heap.Ns builtinsNs mb) (hbb : ∀ y : Str, y ≠ "__name__" → mb y = bootBuiltins y) (hlim : t.heap.NoLimit) (hg : t.gens = #[])
    (ha : t.heap.get? a = some { cls := .type "list", data := .seq zs.toArray }) (hi : IntsAre zs ns) (hl : ns.length ≤ sizeLine) (rm : Room k callerA)
    (F : ∀ bh : Heap, K.In bh → bh.Ns mainGlobals mg → FnG P w K mg bh k fa fd [x] sp) (bi : ∀ (s : Shared) (u : Value), BindsTo s fd ⟨[u], []⟩ [(x, u)])
    (hsp : ∀ J : Hp, Only J → SqL K J a (ns.map V.int) → sp [.ref a] J (fun v _ => v = .bl true) E0) :
    codeAny (model P w) callerA (.call (.ref fa) ⟨[.ref a], []⟩) (Fin1 t) t := by
  have rv : Vals (ns.map V.int) zs := vals_ints hi
  have ll : zs.length ≤ sizeLine := by rw [← rv.length, List.length_map]; exact hl
  cases hk : K.lookup a with
  | some o =>
    obtain rfl : _ = o := Option.some.inj (ha.symm.trans (KX a o hk))
    have sq : SqL K (fun _ => none) a (ns.map V.int) := Or.inr ⟨_, zs.toArray, _, hk, rfl, rfl, rfl, by simpa using ll, by simpa using rv⟩
    exact coreG KX hns hb hbb hlim hg ha rm F bi (fun _ => Or.inl rfl) (fun _ _ z => nomatch z) (fun _ z => absurd rfl z) (fun z => absurd rfl z) (hsp _ (fun _ => Or.inl rfl) sq)
  | none =>
    let J : Hp := fun b => if b = a then some (.frz { cls := .type "list", data := .seq zs.toArray } (.lst (ns.map V.int))) else none
    have ja : J a = some (.frz { cls := .type "list", data := .seq zs.toArray } (.lst (ns.map V.int))) := if_pos rfl
    have jn : ∀ b, b ≠ a → J b = none := fun b h => if_neg h
    have ho : Only J := fun b => (Classical.em (b = a)).elim (fun e => Or.inr ⟨_, _, e ▸ ja⟩) fun e => Or.inl (jn b e)
    refine coreG KX hns hb hbb hlim hg ha rm F bi ho (fun b u z => ?_) (fun b z => Classical.byContradiction fun e => z (jn b e)) (fun _ => hk) (hsp J ho (Or.inl (Or.inr ⟨_, ja⟩)))
    by_cases e : b = a
    · subst e
      obtain rfl := Option.some.inj (ja.symm.trans z)
      exact ⟨ha, by rw [List.length_map]; exact hl, zs, _, rv, ha⟩
    · exact absurd ((jn b e).symm.trans z) fun z => nomatch z
end
theorem walkG {l : PySem.W.OpenLaw} {n k : Nat} {q : Program} {lo : List Str} {XP : (Str → Option Value) → Heap → Prop} {YP : World → Heap → Prop} {d : DefRec} {K : Params → PySem.W.Frag} {sp : World → Sp} {x : Str}
    (hn : l.most = some n) (hn2 : n ≤ sizeLine) (hdf : d.params.defaults = []) (rm : Room k callerA) (hY : ∀ (w : World) (h : Heap), YP w h → (K w.params).In h)
    (F : ∀ (w : World) (mg : Str → Option Value) (fa : Addr) (h : Heap), (K w.params).In h → h.Ns mainGlobals mg → mg d.name = some (.ref fa) →
      ∃ fd : FuncData, (∀ (s : Shared) (u : Value), BindsTo s fd ⟨[u], []⟩ [(x, u)]) ∧
        ∀ bh : Heap, (K w.params).In bh → bh.Ns mainGlobals mg → FnG l.prog w (K w.params) mg bh k fa fd [x] (sp w))
    (hsp : ∀ (w : World) (J : Hp) (a : Addr) (ns : List Int), ns.length ≤ n → Only J → SqL (K w.params) J a (ns.map V.int) → sp w [.ref a] J (fun v _ => v = .bl true) E0) :
    PySem.W.WalkO q lo XP YP l.row.toRowW d [] (fun f vs => PySem.call f vs) := by
  refine Att.attach_call hn hdf fun w s₀ t mg mb fa o pm cd doc a zs ns G Y ho hd hcd hmg hobj hints hlen hg => ?_
  obtain ⟨fd, bi, hF⟩ := F w mg fa _ (hY w _ Y) G.T.g hmg
  exact lawG (hY w _ Y) G.T.g G.T.b G.T.builtins G.T.nolimit hg hobj hints (Nat.le_trans hlen hn2) rm hF bi fun J hO hS => hsp w J a ns hlen hO hS
end Spk
namespace Spk
open PySem PySem.Spec PyProof.Rows L2
/-! ### a def that may be called -/
structure Rdy (P : Program) (w : World) (K : PySem.W.Frag) (mg : Str → Option Value) (bh : Heap) (x : Str) (k : Nat) (ps : List Str) (sp : Sp) (f : Addr) (fd : FuncData) : Prop where
  ok : FnOk P w K mg bh CX0 k f fd ps sp
  gl : mg x = some (.ref f)
  kp : PySem.W.keepIn K (.ref f) = true
  bd : Binds K fd ps []
section
variable {X : Cx} {x : Str} {k j : Nat} {ps : List Str} {dvs : List V} {sp : Sp} {f : Addr} {fd : FuncData} {p pos : Pos} {e : Expr} {es : List Expr} {t : TA}
theorem pe_rdy (R : Rdy X.prog X.w X.K X.mg X.base x k ps sp f fd) (rm : Room j X.A) (hj : k ≤ j) (hg : Gl X x) (ha : PA X (e :: es) t) (hdb : (x == ("__debug__" : Str)) = false := by decide)
    (he : starEach (e :: es) X.env = (false, eval e X.env) :: starEach es X.env := by rfl) (hpl : (backTo pos (starEach es X.env)).any (·.1) = false := by rfl) :
    PE X (.Call (.Name x p) (e :: es) [] pos) (tCall sp [] E0 t) := pe_call R.ok (rm.mono hj) hg R.gl R.kp R.bd .nil pass0 ha hdb he hpl
/-! ### a word between a statement and what follows -/
def tMid (t u : TS) : TS := fun D σ H => ∃ M : L2.St → Hp → Prop, t { D with nx := M } σ H ∧ ∀ τ J, M τ J → u D τ J
theorem pss_mid {st : Stmt} {sts : List Stmt} {t u : TS} (a : PS X st t) (b : PSs X sts u) : PSs X (st :: sts) (tMid t u) := by
  refine ⟨fun pins s σ H D I h => h.elim fun M h => ?_⟩
  refine wpAny_execs_cons (thn (a.run pins s σ H { D with nx := M } I h.1) fun fl s1 q => ?_)
  match fl, q with
  | .next, q =>
    obtain ⟨τ, J, I', q⟩ := q
    exact b.run pins s1 τ J D I' (h.2 τ J q)
  | .ret _, q => exact q
  | .brk, q => exact q
  | .cont, q => exact q
/-! ### constants of the module, of a class -/
/-- the class Ends, as the top has left it -/
structure EndsT (K : PySem.W.Frag) (mg : Str → Option Value) : Prop where
  ex : ∃ (C : Addr) (mc u1 u2 : Value), mg "Ends" = some (.ref C) ∧ ClX.CRead K C mc ∧ ClX.CVal K C mc "HALF" (.str "half") u1 ∧ ClX.CVal K C mc "SHUT" (.str "shut") u2
theorem pe_half (h : EndsT X.K X.mg) (hg : Gl X "Ends") (hb : attributeBase (.Name "Ends" p) "HALF" X.env (eval (.Name "Ends" p) X.env) = eval (.Name "Ends" p) X.env := by rfl) :
    PE X (.Attribute (.Name "Ends" p) "HALF" pos) (tC (.str "half")) := by
  obtain ⟨C, mc, u1, u2, g, r, a, b⟩ := h.ex
  have q := ClX.pe_cval (X := X) (f := "HALF") (pos := pos) (pe_glob (v := .ref C) (pos := p) hg g rfl) hb
  exact ⟨fun pins s σ H R I z => q.run pins s σ H R I ⟨C, mc, _, u1, rfl, r, a, z⟩⟩
theorem pe_shut (h : EndsT X.K X.mg) (hg : Gl X "Ends") (hb : attributeBase (.Name "Ends" p) "SHUT" X.env (eval (.Name "Ends" p) X.env) = eval (.Name "Ends" p) X.env := by rfl) :
    PE X (.Attribute (.Name "Ends" p) "SHUT" pos) (tC (.str "shut")) := by
  obtain ⟨C, mc, u1, u2, g, r, a, b⟩ := h.ex
  have q := ClX.pe_cval (X := X) (f := "SHUT") (pos := pos) (pe_glob (v := .ref C) (pos := p) hg g rfl) hb
  exact ⟨fun pins s σ H R I z => q.run pins s σ H R I ⟨C, mc, _, u2, rfl, r, b, z⟩⟩
end
/-! ### defs with defaults, calls by keywords alone -/
/-! ### heaps -/
theorem SqL.hp {K : PySem.W.Frag} {H : Hp} {a : Addr} {xs : List V} (h : H a = some (.lst xs)) : SqL K H a xs := .inl (.inl h)
theorem SqT.hp {K : PySem.W.Frag} {H : Hp} {a : Addr} {xs : List V} (h : H a = some (.tup xs)) : SqT K H a xs := .inl (.inl h)
/-- all that was tracked, but for what stands at p, is as it was -/
def Kp (p : Addr) (H H' : Hp) : Prop := ∀ b o, b ≠ p → H b = some o → H' b = some o
theorem Kp.refl {p : Addr} {H : Hp} : Kp p H H := fun _ _ _ h => h
theorem Kp.trans {p : Addr} {H H1 H2 : Hp} (a : Kp p H H1) (b : Kp p H1 H2) : Kp p H H2 := fun c o n h => b c o n (a c o n h)
theorem Kp.new {p q : Addr} {H : Hp} {o : HO} (h : H q = none) : Kp p H (upd H q o) := fun b u _ e => by rw [upd_ne (ne_of_none e h)]; exact e
theorem Kp.at_ {p : Addr} {H : Hp} {o : HO} : Kp p H (upd H p o) := fun b u n e => by rw [upd_ne n]; exact e
theorem Same.new {q : Addr} {H : Hp} {o : HO} (h : H q = none) : Same H (upd H q o) := fun b u e => by rw [upd_ne (ne_of_none e h)]; exact e
theorem sameT {K : PySem.W.Frag} {H H' : Hp} {a : Addr} {xs : List V} (e : Same H H') (h : SqT K H a xs) : SqT K H' a xs := by
  rcases h with (h | ⟨o, h⟩) | h
  · exact .inl (.inl (e _ _ h))
  · exact .inl (.inr ⟨o, e _ _ h⟩)
  · exact .inr h
end Spk
namespace Spk
open PySem PySem.Spec PyProof.Rows L2
/-! ### try: .. except X as n: .. except Y as m: .. -/
/-- a clause: the class, the slot of its name, the suite's reading -/
structure Cl where
  c : Value
  i : Nat
  ts : Addr → Value → Option Addr → TS
inductive ClOk (X : Cx) : List ExceptHandler → List Cl → Prop
  | nil : ClOk X [] []
  | cons {x n : Str} {k : Cl} {s0 : Stmt} {su : List Stmt} {np hp : Pos} {hds : List ExceptHandler} {l : List Cl} (hi : X.N[k.i]? = some n) (hln : X.env.kindOf n = some .local) (hc : Names X x k.c)
      (hsu : ∀ (a : Addr) (oe : Obj) (cls : Value) (d : Option Addr) (pn : List (Addr × Obj)), Zc cls d oe → (∃ vs, oe.data = .fields vs) → PSs (X.suite a ((a, oe) :: pn)) (s0 :: su) (k.ts a cls d))
      (r : ClOk X hds l) : ClOk X (.ExceptHandler (some (.Name x np)) (some n) (s0 :: su) hp :: hds) (k :: l)
end Spk
namespace Spk
open PySem PySem.Spec PyProof.Rows L2
/-! ### an own error over ValueError whose __init__ stores its one argument under f -/
def sp_init (C : Addr) (f : Str) : Sp := fun vs H Q _ => ∃ (a : Addr) (v : V), vs = [.ref a, v] ∧ H a = some (exo a C none) ∧ ∀ dx, H dx = none → dx ≠ a → Q .non (upd (upd H dx (exd dx [(f, v)])) a (exo a C (some dx)))
/-- the answer to what the making of an error asks: for each new d the way out -/
theorem errK {C : Addr} {f : Str} {v : V} {H1 : Hp} {Q : XK} (h : ∀ d, H1 d = none → Q (.ref C) (some d) (upd H1 d (.xd [(f, v)]))) :
    ([v] : List V).length ≤ 1000 ∧ ∀ a, H1 a = none → sp_init C f (.ref a :: ([v] ++ [])) (upd H1 a (exo a C none))
      (fun w H2 => w = .non ∧ ∃ (d : Addr) (fs : List (Str × V)), H2 a = some (exo a C (some d)) ∧ H2 d = some (exd d fs) ∧ H1 d = none ∧ Q (.ref C) (some d) (upd (del H2 a) d (.xd fs))) (fun _ _ _ => False) := by
  refine ⟨by simp, fun a na => ⟨a, v, rfl, upd_same, fun dx ndx nea => ⟨rfl, dx, [(f, v)], upd_same, (upd_ne nea).trans upd_same, (upd_ne nea).symm.trans ndx, ?_⟩⟩⟩
  have e : upd (del (upd (upd (upd H1 a (exo a C none)) dx (exd dx [(f, v)])) a (exo a C (some dx))) a) dx (.xd [(f, v)]) = upd H1 dx (.xd [(f, v)]) := by
    funext b
    by_cases h1 : b = dx
    · subst h1; rw [upd_same, upd_same]
    · rw [upd_ne h1, upd_ne h1]
      by_cases h2 : b = a
      · subst h2; rw [del_same, na]
      · rw [del_ne h2, upd_ne h2, upd_ne h1, upd_ne h2]
  rw [e]
  exact h dx ((upd_ne nea).symm.trans ndx)
end Spk
namespace Spk
/-! ### pairs of edges, the union as a function on lists of pairs -/
abbrev Pr := Int × Int
def ple (p q : Pr) : Prop := p.1 < q.1 ∨ (p.1 = q.1 ∧ p.2 ≤ q.2)
instance (p q : Pr) : Decidable (ple p q) := inferInstanceAs (Decidable (_ ∨ _))
def ins (p : Pr) : List Pr → List Pr
  | [] => [p]
  | q :: r => if ple p q then p :: q :: r else q :: ins p r
def srt : List Pr → List Pr
  | [] => []
  | p :: r => ins p (srt r)
theorem ins_perm (p : Pr) : ∀ l, (ins p l).Perm (p :: l)
  | [] => .refl _
  | q :: r => by
    unfold ins
    split
    · exact .refl _
    · exact ((ins_perm p r).cons q).trans (List.Perm.swap p q r)
theorem srt_perm : ∀ l, (srt l).Perm l
  | [] => .refl _
  | p :: r => (ins_perm p _).trans ((srt_perm r).cons p)
/-- the same by recursion -/
def joinG (c : Pr) : List Pr → List Pr
  | [] => [c]
  | p :: r => if c.2 < p.1 then c :: joinG p r else joinG (c.1, if c.2 < p.2 then p.2 else c.2) r
def joinM : List Pr → List Pr
  | [] => []
  | p :: r => joinG p (p :: r)
/-- z: whether ends are read as shut -/
def emp (z : Bool) (p : Pr) : Bool := if z then decide (p.2 < p.1) else decide (p.2 ≤ p.1)
def unionM (z : Bool) (l : List Pr) : List Pr := joinM (srt (l.filter fun p => !emp z p))
end Spk
namespace Spk
open PySem PySem.Spec PyProof.Rows L2
/-! ### any objects, as data -/
def edgeI (i : Int) : Bool := (decide (-1000000000000000000000000000000 ≤ i) && decide (i ≤ 1000000000000000000000000000000)) || (decide (i = -10000000000000000000000000000000) || decide (i = 10000000000000000000000000000000))
def strP (p : Pr) : Bool := edgeI p.1 && edgeI p.2 && (decide (p.1 ≤ p.2) && (decide (p.1 < 10000000000000000000000000000000) && decide (-10000000000000000000000000000000 < p.2)))
/-- the data of a pair -/
def prD (p : Pr) : PyData := .tuple [.int p.1, .int p.2]
/-- refs to tuples of two ints -/
def Pd (H : Hp) : List Addr → List Pr → Prop
  | [], [] => True
  | t :: ts, p :: ps => H t = some (.tup [.int p.1, .int p.2]) ∧ Pd H ts ps
  | _, _ => False
theorem Pd.len {H : Hp} : ∀ {ts : List Addr} {ps : List Pr}, Pd H ts ps → ts.length = ps.length
  | [], [], _ => rfl
  | t :: ts, p :: ps, h => by simp [Pd.len h.2]
  | [], _ :: _, h => h.elim
  | _ :: _, [], h => h.elim
/-- what changes is no tuple -/
theorem Pd.kp {q : Addr} {H H' : Hp} (e : Kp q H H') (hq : ∀ xs, H q ≠ some (.tup xs)) : ∀ {ts : List Addr} {ps : List Pr}, Pd H ts ps → Pd H' ts ps
  | [], [], _ => trivial
  | t :: ts, p :: ps, h => ⟨e _ _ (fun z => hq _ (z ▸ h.1)) h.1, Pd.kp e hq h.2⟩
  | [], _ :: _, h => h.elim
  | _ :: _, [], h => h.elim
theorem Pd.get {H : Hp} : ∀ {ts : List Addr} {ps : List Pr}, Pd H ts ps → ∀ {i : Nat} {t : Addr}, ts[i]? = some t → ∃ p, ps[i]? = some p ∧ H t = some (.tup [.int p.1, .int p.2])
  | [], [], _, i, t, h => by simp at h
  | t :: ts, p :: ps, h, 0, t', e => by
    simp at e; subst e
    exact ⟨p, rfl, h.1⟩
  | t :: ts, p :: ps, h, i + 1, t', e => by
    obtain ⟨q, h1, h2⟩ := Pd.get h.2 (i := i) (t := t') (by simpa using e)
    exact ⟨q, by simpa using h1, h2⟩
  | [], _ :: _, h, _, _, _ => h.elim
  | _ :: _, [], h, _, _, _ => h.elim
theorem Pd.app {H : Hp} : ∀ {ts : List Addr} {ps : List Pr} {us : List Addr} {qs : List Pr}, Pd H ts ps → Pd H us qs → Pd H (ts ++ us) (ps ++ qs)
  | [], [], _, _, _, h => h
  | t :: ts, p :: ps, _, _, h, k => ⟨h.1, Pd.app h.2 k⟩
  | [], _ :: _, _, _, h, _ => h.elim
  | _ :: _, [], _, _, h, _ => h.elim
theorem Pd.set {H : Hp} : ∀ {ts : List Addr} {ps : List Pr} (i : Nat) {t : Addr} {p : Pr}, Pd H ts ps → H t = some (.tup [.int p.1, .int p.2]) → Pd H (ts.set i t) (ps.set i p)
  | [], [], _, _, _, h, _ => h
  | t :: ts, p :: ps, 0, _, _, h, k => ⟨k, h.2⟩
  | t :: ts, p :: ps, i + 1, _, _, h, k => ⟨h.1, Pd.set i h.2 k⟩
  | [], _ :: _, _, _, _, h, _ => h.elim
  | _ :: _, [], _, _, _, h, _ => h.elim
theorem Pd.dp {K : PySem.W.Frag} {H : Hp} : ∀ {ts : List Addr} {ps : List Pr}, Pd H ts ps → DpAll K H (ts.map V.ref) (ps.map prD)
  | [], [], _ => .nil
  | t :: ts, p :: ps, h => .cons (.tup (SqT.hp h.1) (.cons (.int _) (.cons (.int _) .nil))) (Pd.dp h.2)
  | [], _ :: _, h => h.elim
  | _ :: _, [], h => h.elim
/-- the draws of a law -/
def BagAt (H : Hp) (p : Addr) (c : Int) : Prop := ∃ b0 b1 b2 b3 : Int, H p = some (.lst [.int b0, .int b1, .int b2, .int b3]) ∧ 0 ≤ b0 ∧ 0 ≤ b1 ∧ b1 < 2305843009213693951 ∧ 0 ≤ b2 ∧ b2 ≤ 1073741824 ∧ 0 ≤ b3 ∧ b3 ≤ c
theorem BagAt.mono {H : Hp} {p : Addr} {c d : Int} (h : BagAt H p c) (e : c ≤ d) : BagAt H p d := by
  obtain ⟨b0, b1, b2, b3, h0, h1, h2, h3, h4, h5, h6, h7⟩ := h
  exact ⟨b0, b1, b2, b3, h0, h1, h2, h3, h4, h5, h6, by omega⟩
theorem BagAt.lst {H : Hp} {p : Addr} {c : Int} (h : BagAt H p c) : ∃ xs, H p = some (.lst xs) := by
  obtain ⟨b0, b1, b2, b3, h0, h1⟩ := h
  exact ⟨_, h0⟩
/-- all but the bag at p is as it was, what was free too -/
def But (p : Addr) (H H' : Hp) : Prop := ∀ b, b ≠ p → H' b = H b
theorem But.kp {p : Addr} {H H' : Hp} (h : But p H H') : Kp p H H' := fun b o n e => (h b n).trans e
theorem But.trans {p : Addr} {H H1 H2 : Hp} (a : But p H H1) (b : But p H1 H2) : But p H H2 := fun c n => (b c n).trans (a c n)
theorem But.refl {p : Addr} {H : Hp} : But p H H := fun _ _ => rfl
theorem lgDiv {i m : Int} (h0 : 0 < m) (h : m ≤ 1000000000000000000000000000000000000000000000) : CDivW i m :=
  wide_div (b := 200) h0 (by omega) (by decide) (by decide)
end Spk
namespace Spk
open PySem PySem.Spec PyProof.Rows L2
/-- the pair that a ref's tuple holds -/
def kOf (H : Hp) : V → Int × Int
  | .ref t => match H t with
    | some (.tup [.int a, .int b]) => (a, b)
    | _ => (0, 0)
  | _ => (0, 0)
theorem kOf_at {H : Hp} {t : Addr} {p : Pr} (h : H t = some (.tup [.int p.1, .int p.2])) : kOf H (.ref t) = p := by
  show (match H t with | some (.tup [.int a, .int b]) => (a, b) | _ => (0, 0)) = p
  rw [h]
theorem Pd.map {H : Hp} : ∀ {ts : List Addr} {ps : List Pr}, Pd H ts ps → (ts.map V.ref).map (kOf H) = ps
  | [], [], _ => rfl
  | t :: ts, p :: ps, h => by
    show kOf H (.ref t) :: (ts.map V.ref).map (kOf H) = p :: ps
    rw [kOf_at h.1, Pd.map h.2]
  | [], _ :: _, h => h.elim
  | _ :: _, [], h => h.elim
theorem Pd.all {H : Hp} : ∀ {ts : List Addr} {ps : List Pr}, Pd H ts ps → ∀ x ∈ ts.map V.ref, ∃ t, x = V.ref t ∧ H t = some (.tup [.int (kOf H x).1, .int (kOf H x).2])
  | [], [], _, x, hx => by simp at hx
  | t :: ts, p :: ps, h, x, hx => by
    rcases List.mem_cons.mp (show x ∈ V.ref t :: ts.map V.ref from hx) with e | hx
    · exact ⟨t, e, by rw [e, kOf_at h.1]; exact h.1⟩
    · exact Pd.all h.2 x hx
  | [], _ :: _, h, _, _ => h.elim
  | _ :: _, [], h, _, _ => h.elim
end Spk
namespace Spk
open PySem PySem.Spec PyProof.Rows L2
theorem Pd.take {H : Hp} : ∀ {ts : List Addr} {ps : List Pr} (n : Nat), Pd H ts ps → Pd H (ts.take n) (ps.take n)
  | [], [], _, _ => by simp [Pd]
  | t :: ts, p :: ps, 0, _ => by simp [Pd]
  | t :: ts, p :: ps, n + 1, h => ⟨h.1, Pd.take n h.2⟩
  | [], _ :: _, _, h => h.elim
  | _ :: _, [], _, h => h.elim
theorem Pd.drop {H : Hp} : ∀ {ts : List Addr} {ps : List Pr} (n : Nat), Pd H ts ps → Pd H (ts.drop n) (ps.drop n)
  | [], [], _, _ => by simp [Pd]
  | t :: ts, p :: ps, 0, h => h
  | t :: ts, p :: ps, n + 1, h => Pd.drop n h.2
  | [], _ :: _, _, h => h.elim
  | _ :: _, [], _, h => h.elim
end Spk
namespace Spk
open PySem PySem.Spec PyProof.Rows L2
theorem strP_ext {c p : Pr} (h : strP c = true) (k : strP p = true) (e : c.2 < p.2) : strP (c.1, p.2) = true := by
  unfold strP edgeI at *
  simp only [Bool.and_eq_true, Bool.or_eq_true, decide_eq_true_eq] at *
  omega
end Spk
namespace Spk
open PySem PySem.Spec PyProof.Rows L2
/-! ### objects that may be shown and compared -/
structure OkD (d : PyData) : Prop where
  sh : d.showable = true
  nd : d.hasDict = false
  dp : d.depth ≤ 60
  ln : d.shown.length ≤ sizeLine
  ok : PyData.canLay0 d = true
  st : PyData.canLay0 (.str d.shown) = true
theorem OkD.shaped {d : PyData} (h : OkD d) : SeqAt.shaped d = true := by
  unfold SeqAt.shaped
  rw [h.ok, decide_eq_true (Nat.le_trans h.dp (by decide))]; rfl
end Spk
namespace Spk
open PySem PySem.Spec PyProof.Rows L2
def rNotInT (K : PySem.W.Frag) : R2 := fun x y H Q => ∃ d ds, Dp K H x d ∧ Dp K H y (.tuple ds) ∧ SeqAt.shaped d = true ∧ PyData.canLayAll0 ds = true ∧ Q (.bl (!ds.any fun z => PyData.eqv z d)) H
section
variable {X : Cx}
theorem op_notInT (hu : X.A.units + 65 < cLine) : OpR X (compareOp .NotIn) (rNotInT X.K) := by
  intro pins s σ H x y v u Q I rx ry h
  obtain ⟨d, ds, hd, he, sd, se, q⟩ := h
  obtain ⟨as, r1⟩ := Dp.reads I d x v hd rx
  obtain ⟨bs, r2⟩ := Dp.reads I (.tuple ds) y u he ry
  exact SeqAt.notIn_tuple_reads r2 r1 se (SeqAt.canLay_of_shaped sd) (room_in_shaped sd hu) ⟨.bl _, H, I, rfl, q⟩
end
/-! ### a def that may raise, ready to be called -/
structure RdyX (P : Program) (w : World) (K : PySem.W.Frag) (mg : Str → Option Value) (bh : Heap) (x : Str) (k : Nat) (ps : List Str) (sp : Sp) (f : Addr) (fd : FuncData) : Prop where
  ok : FnOk P w K mg bh (L2.CX P w) k f fd ps sp
  gl : mg x = some (.ref f)
  kp : PySem.W.keepIn K (.ref f) = true
  bd : Binds K fd ps []
end Spk
namespace Spk
open PySem PySem.Spec PyProof.Rows L2
/-! ### small objects, lists of them -/
structure Sm (d : PyData) : Prop where
  sh : d.showable = true
  nd : d.hasDict = false
  dp : d.depth ≤ 6
  lf : d.leavesShort 60 = true
  bk : d.bulk ≤ 50
  ok : PyData.canLay0 d = true
theorem Sm.len {d : PyData} (h : Sm d) : d.shown.length ≤ sizeLine := by
  have := PyData.shown_le_bulk 60 (by decide) d h.lf
  have := h.bk
  rw [sizeLine_eq]; omega
theorem Sm.shaped {d : PyData} (h : Sm d) : SeqAt.shaped d = true := by
  unfold SeqAt.shaped
  rw [h.ok, decide_eq_true (Nat.le_trans h.dp (by decide))]; rfl
end Spk
namespace Spk
theorem joinG_len : ∀ (l : List Pr) (c : Pr), (joinG c l).length ≤ l.length + 1
  | [], c => Nat.le_refl _
  | p :: r, c => by
    unfold joinG
    split
    · have := joinG_len r p; simp; omega
    · have := joinG_len r (c.1, if c.2 < p.2 then p.2 else c.2); simp; omega
theorem joinM_len (l : List Pr) : (joinM l).length ≤ l.length + 1 := by
  cases l with
  | nil => exact Nat.zero_le _
  | cons p r => exact joinG_len (p :: r) p
theorem union_len (z : Bool) (l : List Pr) : (unionM z l).length ≤ l.length + 1 := by
  unfold unionM
  refine Nat.le_trans (joinM_len _) (Nat.succ_le_succ ?_)
  rw [(srt_perm _).length_eq]
  exact List.length_filter_le ..
/-- a property of the pairs that joining keeps -/
theorem union_keeps {z : Bool} {G : Pr → Prop} (ext : ∀ c p : Pr, G c → G p → c.2 < p.2 → G (c.1, p.2)) {l : List Pr} (h : ∀ p ∈ l, G p) : ∀ p ∈ unionM z l, G p := by
  have jg : ∀ (l : List Pr) (c : Pr), G c → (∀ p ∈ l, G p) → ∀ p ∈ joinG c l, G p := by
    intro l
    induction l with
    | nil => intro c hc _ p hp; rw [joinG] at hp; exact (List.mem_singleton.mp hp) ▸ hc
    | cons q r ih =>
      intro c hc hl p hp
      unfold joinG at hp
      split at hp
      · rcases List.mem_cons.mp hp with e | hp
        · exact e ▸ hc
        · exact ih q (hl q (by simp)) (fun x hx => hl x (by simp [hx])) p hp
      · refine ih _ ?_ (fun x hx => hl x (by simp [hx])) p hp
        split
        · exact ext c q hc (hl q (by simp)) (by assumption)
        · exact hc
  have hl : ∀ p ∈ srt (l.filter fun p => !emp z p), G p := fun p hp => h p (List.mem_filter.mp ((srt_perm _).mem_iff.mp hp)).1
  unfold unionM
  generalize srt (l.filter fun p => !emp z p) = k at hl
  cases k with
  | nil => intro p hp; simp [joinM] at hp
  | cons q r => exact jg (q :: r) q (hl q (by simp)) hl
end Spk
namespace Spk
/-! ### what the wishes for answers count -/
def mx (m n : Int) : Int := if n > m then n else m
def mn (m n : Int) : Int := if n < m then n else m
/-- have two stretches a moment in common -/
def meetB (z : Bool) (p q : Pr) : Bool := decide (mx p.1 q.1 < mn p.2 q.2) || (z && decide (mx p.1 q.1 = mn p.2 q.2))
/-- no two of them meet -/
def Apart (z : Bool) (ps : List Pr) : Prop := ps.Pairwise fun q p => meetB z p q = false
instance {z : Bool} {ps : List Pr} : Decidable (Apart z ps) := inferInstanceAs (Decidable (List.Pairwise _ _))
/-! ### the law's own pieces -/
/-! ### the answers -/
end Spk
namespace Spk
open PySem PySem.Spec PyProof.Rows L2
/-! ### the draws of the later laws -/
def BagN (H : Hp) (p : Addr) : Prop := ∃ b0 b1 : Int, H p = some (.lst [.int b0, .int b1]) ∧ 0 ≤ b0 ∧ 0 ≤ b1 ∧ b1 < 2147483629
theorem BagN.kp {H H' : Hp} {p q : Addr} (h : BagN H p) (k : Kp q H H') (n : p ≠ q) : BagN H' p := by
  obtain ⟨b0, b1, h0, h1⟩ := h
  exact ⟨b0, b1, k _ _ n h0, h1⟩
/-! ### windows, terms -/
/-! ### an Answer -/
structure RdyPr (P : Program) (w : World) (K : PySem.W.Frag) (mg : Str → Option Value) (bh : Heap) (C : Addr) (m : Str) (k : Nat) (sp : Sp) (p f : Addr) (fd : FuncData) : Prop where
  ok : FnOk P w K mg bh CX0 k f fd ["self"] sp
  pr : PropOf K C m p f
  bd : Binds K fd ["self"] []
end Spk
namespace Spk
open PySem PySem.Spec PyProof.Rows L2
/-- but for what stands at p and q all that was tracked is as it was -/
def Ks (p q : Addr) (H H' : Hp) : Prop := ∀ b o, b ≠ p → b ≠ q → H b = some o → H' b = some o
theorem Ks.refl {p q : Addr} {H : Hp} : Ks p q H H := fun _ _ _ _ h => h
theorem Ks.trans {p q : Addr} {H H1 H2 : Hp} (a : Ks p q H H1) (b : Ks p q H1 H2) : Ks p q H H2 := fun c o n m h => b c o n m (a c o n m h)
theorem Ks.kp {p q : Addr} {H H' : Hp} (s : Kp p H H') : Ks p q H H' := fun c o n _ h => s c o n h
end Spk
namespace Spk
open PySem PySem.Spec PyProof.Rows L2
/-! ### how often a moment is held, by the sorted changes -/
/-! ### which times are wished -/
/-! ### a walk over what stays, beside a list that grows -/
theorem Pd.nil {H : Hp} {us : List Addr} (h : Pd H us []) : us = [] := by
  cases us with
  | nil => rfl
  | cons _ _ => exact h.elim
/-! ### events -/
abbrev Evt := Bool × Int
def evW (b : Bool) : V := .str (if b then "in" else "out")
def Ev (H : Hp) : List Addr → List Evt → Prop
  | [], [] => True
  | t :: ts, e :: es => H t = some (.tup [evW e.1, .int e.2]) ∧ Ev H ts es
  | _, _ => False
theorem Ev.len {H : Hp} : ∀ {ts : List Addr} {ps : List Evt}, Ev H ts ps → ts.length = ps.length
  | [], [], _ => rfl
  | t :: ts, p :: ps, h => by simp [Ev.len h.2]
  | [], _ :: _, h => h.elim
  | _ :: _, [], h => h.elim
theorem Ev.kp {q : Addr} {H H' : Hp} (e : Kp q H H') (hq : ∀ xs, H q ≠ some (.tup xs)) : ∀ {ts : List Addr} {ps : List Evt}, Ev H ts ps → Ev H' ts ps
  | [], [], _ => trivial
  | t :: ts, p :: ps, h => ⟨e _ _ (fun z => hq _ (z ▸ h.1)) h.1, Ev.kp e hq h.2⟩
  | [], _ :: _, h => h.elim
  | _ :: _, [], h => h.elim
theorem Ev.get {H : Hp} : ∀ {ts : List Addr} {ps : List Evt}, Ev H ts ps → ∀ {i : Nat} {t : Addr}, ts[i]? = some t → ∃ p, ps[i]? = some p ∧ H t = some (.tup [evW p.1, .int p.2])
  | [], [], _, i, t, h => by simp at h
  | t :: ts, p :: ps, h, 0, t', e => by
    simp at e; subst e
    exact ⟨p, rfl, h.1⟩
  | t :: ts, p :: ps, h, i + 1, t', e => by
    obtain ⟨q, h1, h2⟩ := Ev.get h.2 (i := i) (t := t') (by simpa using e)
    exact ⟨q, by simpa using h1, h2⟩
  | [], _ :: _, h, _, _, _ => h.elim
  | _ :: _, [], h, _, _, _ => h.elim
theorem Ev.app {H : Hp} : ∀ {ts : List Addr} {ps : List Evt} {us : List Addr} {qs : List Evt}, Ev H ts ps → Ev H us qs → Ev H (ts ++ us) (ps ++ qs)
  | [], [], _, _, _, h => h
  | t :: ts, p :: ps, _, _, h, k => ⟨h.1, Ev.app h.2 k⟩
  | [], _ :: _, _, _, h, _ => h.elim
  | _ :: _, [], _, _, h, _ => h.elim
theorem Ev.take {H : Hp} : ∀ {ts : List Addr} {ps : List Evt} (n : Nat), Ev H ts ps → Ev H (ts.take n) (ps.take n)
  | [], [], n, _ => by simp [Ev]
  | t :: ts, p :: ps, 0, _ => trivial
  | t :: ts, p :: ps, n + 1, h => ⟨h.1, Ev.take n h.2⟩
  | [], _ :: _, _, h => h.elim
  | _ :: _, [], _, h => h.elim
theorem Ev.drop {H : Hp} : ∀ {ts : List Addr} {ps : List Evt} (n : Nat), Ev H ts ps → Ev H (ts.drop n) (ps.drop n)
  | [], [], n, _ => by simp [Ev]
  | t :: ts, p :: ps, 0, h => h
  | t :: ts, p :: ps, n + 1, h => Ev.drop n h.2
  | [], _ :: _, _, h => h.elim
  | _ :: _, [], _, h => h.elim
def evD (e : Evt) : PyData := .tuple [.str (if e.1 then "in" else "out"), .int e.2]
theorem Ev.dp {K : PySem.W.Frag} {H : Hp} : ∀ {ts : List Addr} {ps : List Evt}, Ev H ts ps → DpAll K H (ts.map V.ref) (ps.map evD)
  | [], [], _ => .nil
  | t :: ts, p :: ps, h => .cons (.tup (SqT.hp h.1) (.cons (.str _) (.cons (.int _) .nil))) (Ev.dp h.2)
  | [], _ :: _, h => h.elim
  | _ :: _, [], h => h.elim
/-! ### a Moments -/
/-! ### a list that is kept sorted by insertion -/
end Spk
/-! the begins that no other stretch reaches, the ends beyond which none goes: those of the union -/
namespace Spk
open PySem PySem.Spec PyProof.Rows L2
section
variable {K : PySem.W.Frag}
theorem kit_mk {t : Value} {C : Addr} {b : Bool} (h2 : PySem.W.isClsIn K C = true) (h3 : PySem.W.typeIn K (.ref C) = some (.type "type")) (h4 : PySem.W.subIn K t (.ref C) = some b) : PySem.W.kitCls K t (.ref C) = some b := by
  have e2 : ((PySem.W.clsIn K C).isSome && PySem.W.typeIn K (.ref C) == some (.type "type")) = true := by
    have h2' : (PySem.W.clsIn K C).isSome = true := h2
    rw [h2', h3] <;> rfl
  show (if ((PySem.W.clsIn K C).isSome && PySem.W.typeIn K (.ref C) == some (.type "type")) = true then PySem.W.subIn K t (.ref C) else none) = some b
  rw [if_pos e2]
  exact h4
/-- isinstance by another own class: no -/
theorem kit_not {C D : Addr} (h2 : PySem.W.isClsIn K D = true) (h3 : PySem.W.typeIn K (.ref D) = some (.type "type")) (hs : PySem.W.subIn K (.ref D) (.ref D) = some true) (h4 : PySem.W.subIn K (.ref C) (.ref D) = some false) : PySem.W.kitOne K (.ref C) (.ref D) = some false := by
  have ne : C ≠ D := fun z => by rw [z, hs] at h4; cases h4
  have e : (Value.ref C == Value.ref D) = false := by
    cases q : (Value.ref C == Value.ref D) with
    | false => rfl
    | true => exact absurd (by have := beq_iff_eq.mp q; injection this) ne
  show (if (Value.ref C == Value.ref D) = true then some true else PySem.W.kitCls K (.ref C) (.ref D)) = some false
  rw [e, if_neg Bool.false_ne_true]
  exact kit_mk h2 h3 h4
/-- what the top must have left of an own error class over ValueError -/
structure ErrF (K : PySem.W.Frag) (C : Addr) (f : Str) : Prop where
  cls : ∃ nm q N bs bm sn sub ab col dd k0 k1 k2 k3 k5, K.lookup C = some (excClassObj nm q C N bs bm true sn sub ab col dd k0 k1 k2 k3 k5 "ValueError.__new__") ∧ PySem.HandSPX.refsVE bm = true
  sa : PySem.W.findIn K (.ref C) "__setattr__" = some (some (.builtin "object.__setattr__"))
  ga : PySem.W.findIn K (.ref C) "__getattribute__" = some (some (.builtin "BaseException.__getattribute__"))
  gg : PySem.W.findIn K (.ref C) "__getattr__" = some none
  nf : PySem.W.findIn K (.ref C) f = some none
  kC : PySem.W.keepIn K (.ref C) = true
  eC : PySem.W.subIn K (.ref C) (.type "BaseException") = some true
  tC : PySem.W.typeIn K (.ref C) = some (.type "type")
  hC : PySem.W.hasDictIn K C = true
  iC : PySem.W.isClsIn K C = true
  sC : PySem.W.subIn K (.ref C) (.ref C) = some true
theorem ErrF.xf {C : Addr} {f : Str} (h : ErrF K C f) : XfC K C := ⟨h.ga, h.gg, h.eC, h.hC⟩
theorem ErrF.oex {C : Addr} {f : Str} (h : ErrF K C f) : OexC K C := ⟨h.cls, h.sa, h.eC, h.tC, h.kC⟩
end
end Spk
namespace Spk
open PySem PySem.Spec PyProof.Rows L2
/-! ### the least moments of a spread -/
theorem union_edges {ps : List Pr} (h : ∀ p ∈ ps, strP p = true) : ∀ u ∈ unionM false ps, strP u = true ∧ (∃ p ∈ ps, p.1 = u.1) ∧ ∃ p ∈ ps, p.2 = u.2 :=
  union_keeps (G := fun u => strP u = true ∧ (∃ p ∈ ps, p.1 = u.1) ∧ ∃ p ∈ ps, p.2 = u.2) (fun c p hc hp hl => ⟨strP_ext hc.1 hp.1 hl, hc.2.1, hp.2.2⟩) fun p hp => ⟨h p hp, ⟨p, hp, rfl⟩, ⟨p, hp, rfl⟩⟩
end Spk
namespace Spk
open PySem PySem.Spec PyProof.Rows L2
/-! ### spans and spreads as objects -/
def spnFs (p : Pr) : List (Str × V) := [(("begin" : Str), .int p.1), (("end" : Str), .int p.2)]
structure SpnC (K : PySem.W.Frag) (C : Addr) : Prop where
  cl : Cls K C
  nB : NoAttr K C "begin"
  nE : NoAttr K C "end"
  self : PySem.W.kitOne K (.ref C) (.ref C) = some true
  ha : PySem.W.findIn K (.ref C) "__class__" = some (some (.builtin "object.__class__"))
  hn : PySem.W.specialIn K (.builtin "object.__class__") "__get__" = some (some (.builtin "getset_descriptor.__get__"))
  ht : PySem.W.takesIn K (.builtin "object.__class__") = some true
  hm : PySem.W.mroIn K C (.type "object") = some true
theorem SpnC.ty {K : PySem.W.Frag} {C a dx : Addr} {fs : List (Str × V)} {H : Hp} (c : SpnC K C) (e : H a = some (.ins C dx fs)) : TyX K H (.ref a) (.ref C) := .base (.ins e c.cl c.ha c.hn c.ht c.hm)
structure SprC (K : PySem.W.Frag) (C : Addr) : Prop where
  cl : Cls K C
  nP : NoAttr K C "pairs"
def IsSpn (H : Hp) (C a : Addr) (p : Pr) : Prop := ∃ dx : Addr, H a = some (.ins C dx (spnFs p))
def Spn (H : Hp) (C : Addr) : List Addr → List Pr → Prop
  | [], [] => True
  | a :: as, p :: ps => IsSpn H C a p ∧ Spn H C as ps
  | _, _ => False
theorem Spn.len {H : Hp} {C : Addr} : ∀ {as : List Addr} {ps : List Pr}, Spn H C as ps → as.length = ps.length
  | [], [], _ => rfl
  | _ :: _, _ :: _, h => congrArg (· + 1) (Spn.len h.2)
  | [], _ :: _, h => h.elim
  | _ :: _, [], h => h.elim
theorem Spn.get {H : Hp} {C : Addr} : ∀ {as : List Addr} {ps : List Pr}, Spn H C as ps → ∀ {i : Nat} {a : Addr}, as[i]? = some a → ∃ p, ps[i]? = some p ∧ IsSpn H C a p
  | [], [], _, _, _, e => by simp at e
  | a :: as, p :: ps, h, 0, x, e => by
    obtain rfl : a = x := by simpa using e
    exact ⟨p, rfl, h.1⟩
  | _ :: as, _ :: ps, h, i + 1, x, e => by
    obtain ⟨p, h1, h2⟩ := Spn.get h.2 (i := i) (a := x) (by simpa using e)
    exact ⟨p, by simpa using h1, h2⟩
  | [], _ :: _, h, _, _, _ => h.elim
  | _ :: _, [], h, _, _, _ => h.elim
theorem Spn.app {H : Hp} {C : Addr} : ∀ {as : List Addr} {ps : List Pr} {bs : List Addr} {qs : List Pr}, Spn H C as ps → Spn H C bs qs → Spn H C (as ++ bs) (ps ++ qs)
  | [], [], _, _, _, h => h
  | _ :: _, _ :: _, _, _, h, k => ⟨h.1, Spn.app h.2 k⟩
  | [], _ :: _, _, _, h, _ => h.elim
  | _ :: _, [], _, _, h, _ => h.elim
theorem Spn.kp {q : Addr} {H H' : Hp} {C : Addr} (e : Kp q H H') (hq : ∀ D dx fs, H q ≠ some (.ins D dx fs)) : ∀ {as : List Addr} {ps : List Pr}, Spn H C as ps → Spn H' C as ps
  | [], [], _ => trivial
  | a :: _, _ :: _, h => by
    obtain ⟨⟨dx, h1⟩, h2⟩ := h
    exact ⟨⟨dx, e _ _ (fun z => hq _ _ _ (z ▸ h1)) h1⟩, Spn.kp e hq h2⟩
  | [], _ :: _, h => h.elim
  | _ :: _, [], h => h.elim
def sprFs (t : Addr) : List (Str × V) := [(("pairs" : Str), .ref t)]
def IsSpr (H : Hp) (C o : Addr) (us : List Pr) : Prop := ∃ (dx t : Addr) (ts : List Addr), H o = some (.ins C dx (sprFs t)) ∧ H t = some (.tup (ts.map V.ref)) ∧ Pd H ts us
/-! ### a def with a star parameter -/
/-! ### o.m(e, ..) where what is raised is wished for at the caller's slots -/
end Spk
namespace Spk
open PySem PySem.Spec PyProof.Rows L2
theorem kit_self {K : PySem.W.Frag} (C : Addr) : PySem.W.kitOne K (.ref C) (.ref C) = some true := by
  have e : (Value.ref C == Value.ref C) = true := beq_iff_eq.mpr rfl
  show (if (Value.ref C == Value.ref C) = true then some true else PySem.W.kitCls K (.ref C) (.ref C)) = some true
  rw [e] <;> rfl
theorem IsSpr.kp {H H' : Hp} {C o q : Addr} {us : List Pr} (h : IsSpr H C o us) (k : Kp q H H') (hq : ∃ xs, H q = some (.lst xs)) : IsSpr H' C o us := by
  obtain ⟨dx, t, ts, h1, h2, h3⟩ := h
  obtain ⟨xs, hq⟩ := hq
  refine ⟨dx, t, ts, k _ _ (fun z => ?_) h1, k _ _ (fun z => ?_) h2, h3.kp k fun ys z => by rw [hq] at z; cases z⟩
  · rw [z, hq] at h1; cases h1
  · rw [z, hq] at h2; cases h2
end Spk
namespace L2
open PySem PySem.Spec PyProof.Rows GenW
/-! ### for in a generator's body -/
end L2
namespace SpkX
open PySem PySem.W PySem.Calls PyProof.Rows PySem.HandSPX
open Builtin Builtin.ObjectAttr
/-! ### own errors over any of the built-in ones -/
/-- the first field of an error that is being made -/
theorem put_first {prog : Program} {w : World} {A : Around} {R : Result → Shared → Prop} {H0 : Heap} {ge : Array GenState} {dr : Drawn} {t0 : Nat} {os : OsState} {K : W.Frag} {fn : Str} {tk : Tok} {u : Value} {ea Ca : Addr} {fv : Array Value} {cd : ClassData}
    (KI : K.In H0) (hE : H0.get? ea = some { cls := .ref Ca, data := .fields fv }) (hC : W.clsIn K Ca = some cd) (ne : cd.mro.isEmpty = false) (ob : cd.mro.contains (.type "object") = true) (ps : ∀ z, refuseLoop z "__setattr__" cd.mro = pure ()) (hh : cd.hasDict = true) (hno : W.findIn K (.ref Ca) fn = some none)
    (go : ∀ H1 tk1 dx, (∀ b o, b ≠ ea → H0.get? b = some o → H1.get? b = some o) → H0.objs.size ≤ dx → dx ≠ ea → H1.get? ea = some { cls := .ref Ca, dict := some dx, data := .fields fv } →
      H1.Ns1 dx (fun y => if y = fn then some u else none) → R (.ok (.ret .none)) ⟨H1, ge, dr, tk1, os⟩) :
    codeAny (model prog w) A (.call (.builtin "object.__setattr__") ⟨[.ref ea, .str fn tk, u], []⟩) R ⟨H0, ge, dr, t0, os⟩ := by
  have IN : W.InstAt H0 ea { cls := .ref Ca, data := .fields fv } Ca none := ⟨hE, rfl, rfl, trivial⟩
  have lt : ea ≠ H0.objs.size := Nat.ne_of_lt (Heap.lt_size hE)
  have sb : W.Looks (model prog w) H0 (isInstance (.ref ea) (.type "object")) true := by
    refine IN.type.andThen (W.looks_mroIn KI ?_)
    unfold W.mroIn
    rw [hC, Option.bind_some, if_neg (by rw [ne]; decide), ob]
  refine codeAny_call_builtin F.store_object.slot.plain F.store_object.entry ?_
  refine @W.check_slot (model prog w) _ _ ⟨H0, ge, dr, t0, os⟩ "object.__setattr__" "object" "__setattr__" (.ref ea) [.str fn tk, u] [] _ F.store_object.kind F.store_object.split sb (F.store_object.args (.ref ea) (.str fn tk) u) ?_
  have l1 : W.Looks (model prog w) H0 (mroOf (.ref Ca)) cd.mro := (W.looks_clsIn KI hC).andThen .now
  have l2 : W.Looks (model prog w) H0 (storeTaker? none) none := .now
  have l3 : W.Looks (model prog w) H0 (classData Ca) cd := W.looks_clsIn KI hC
  rw [W.osa_eq, refuse_eq]
  refine wpAny_bind (wpAny_bind (IN.type.at (wpAny_bind (l1.at ?_))))
  rw [ps]
  refine wpAny_pure (wpAny_bind (IN.type.at (wpAny_bind ((W.looks_findIn KI hno).at (wpAny_bind (l2.at ?_))))))
  show wpAny _ _ (storeInOwnDict (.ref ea) (.ref Ca) (.str fn tk) fn u false) _ _ _
  obtain ⟨f1, f2, f3, f4, f5, hd, f6, f7, f8, f9, f10⟩ := cd
  dsimp only at hh
  subst hh
  unfold storeInOwnDict ownDictForStores
  repeat (first | with_reducible refine store_in_new ?_ ?_ | with_reducible refine l3.at ?_ | with_reducible refine wpAny_loadPart_at hE ?_ | wp_step)
  · refine ⟨_, #[], _, (Heap.get?_update_ne _ _ _ _ lt.symm).trans (Heap.get?_push_at rfl rfl), rfl, fun e he => ?_, fun _ => rfl⟩
    exact absurd he (by simp)
  · intro H1 tk1 hn hs
    have h1 : (H0.push { cls := .type "dict", data := .dict #[] }).get? ea = some { cls := .ref Ca, data := .fields fv } := Heap.get?_push_of_some _ hE
    refine go H1 tk1 H0.objs.size (fun b o hb ho => ?_) (Nat.le_refl _) lt.symm ((hs.2 ea lt).trans (Heap.get?_update_self _ h1 rfl)) hn
    exact (hs.2 b (Nat.ne_of_lt (Heap.lt_size ho))).trans ((Heap.get?_update_ne _ _ _ _ hb).trans (Heap.get?_push_of_some _ ho))
end SpkX
namespace Spk
open PySem PySem.Spec PyProof.Rows L2
/-- what the written part says of an own error class -/
structure OexB (K : PySem.W.Frag) (C : Addr) : Prop where
  cls : ∃ B ni ii bm, ExcBaseFacts B ni ii bm ∧ (∀ z, refuseLoop z "__setattr__" bm = pure ()) ∧ bm.contains (.type "object") = true ∧
    ∃ nm q N bs sn sub ab col dd k0 k1 k2 k3 k5, K.lookup C = some (excClassObj nm q C N bs bm true sn sub ab col dd k0 k1 k2 k3 k5 ni)
  sa : PySem.W.findIn K (.ref C) "__setattr__" = some (some (.builtin "object.__setattr__"))
  exC : PySem.W.subIn K (.ref C) (.type "BaseException") = some true
  tyC : PySem.W.typeIn K (.ref C) = some (.type "type")
  kC : PySem.W.keepIn K (.ref C) = true
section
variable {X : Cx} {pins : List (Addr × Obj)} {σ : L2.St} {H : Hp} {s : Shared} {a C : Addr} {f : Str} {y : V} {u : Value} {Q : Unit → Shared → Prop} {E : Value → Shared → Prop} {A : Around}
theorem first_fld (T : OexB X.K C) (I : Inv X pins σ H s) (ea : H a = some (exo a C none)) (nf : PySem.W.findIn X.K (.ref C) f = some none) (ry : RelV y u)
    (go : ∀ dx s', H dx = none → dx ≠ a → Inv X pins σ (upd (upd H dx (exd dx [(f, y)])) a (exo a C (some dx))) s' → Q () s') : wpAny (model X.prog X.w) A (setAttr (.ref a) f u) Q E s := by
  obtain ⟨B, ni, ii, bm, FB, ps, ob, nm, q, N, bs, sn, sub, ab, col, dd, k0, k1, k2, k3, k5, hC⟩ := T.cls
  have cI : PySem.W.clsIn X.K C = some ⟨nm, bs, .ref C :: bm, N, q, true, sn, sub, ab, col, false⟩ := by unfold PySem.W.clsIn; rw [hC] <;> rfl
  obtain ⟨t1, oa⟩ := exo_at I.hok ea
  obtain ⟨H0, ge, dr, tk, os⟩ := s
  refine PySem.W.set_plain I.kIn (ox := { cls := .ref C, dict := none, data := .fields #[.ref t1, .none, .none, .none, .bool false, .none] }) (od := none) ⟨oa, rfl, rfl, trivial⟩ T.sa ?_
  refine SpkX.put_first I.kIn oa cI rfl (by rw [List.contains_cons, ob, Bool.or_true]) (fun z => by rw [refuseLoop_ref]; exact ps z) rfl nf (fun H1 tk1 dx kp dn dne hx hn => ?_)
  have nD : H dx = none := I.hok.fresh dn
  have oth : ∀ {b : Addr}, H b = none → b ≠ a := fun {b} n z => by rw [z, ea] at n; cases n
  have fre : ∀ {b : Addr} {o : Obj}, H0.get? b = some o → b ≠ dx := fun {b o} q => Nat.ne_of_lt (Nat.lt_of_lt_of_le (Heap.lt_size q) dn)
  let HN : Hp := upd (upd H dx (exd dx [(f, y)])) a (exo a C (some dx))
  have at_ : ∀ {b : Addr}, b ≠ a → b ≠ dx → HN b = H b := fun {b} h1 h2 => by show upd (upd H dx _) a _ b = _; rw [upd_ne h1, upd_ne h2]
  have HNo : ∀ {b : Addr} {o : HO}, H b = some o → b ≠ a → HN b = some o := fun {b o} h1 h2 => (at_ h2 (ne_of_none h1 nD)).trans h1
  have un : Un X.fs [] H HN H0 H1 :=
    { keep := fun b o q n _ _ => kp b o (oth n) q
      slot := fun b o q n _ _ => ⟨o.slots, kp b o (oth n) q⟩
      free := fun b o q n _ => (at_ (oth n) (fre q)).trans n
      there := fun b o q _ => (Decidable.em (b = a)).elim (fun hb => ⟨_, hb ▸ hx⟩) fun hb => ⟨o, kp b o hb q⟩
      tups := fun b xs q => HNo q (at_ne ea q exo_tup)
      frzs := fun b o v q => HNo q (at_ne ea q exo_frz)
      tbls := fun b ps q => ⟨#[], by rw [HNo q (at_ne ea q exo_tbl)]; simp⟩ }
  refine go dx _ nD dne (I.un (t' := tk1) un fun b o q => ?_)
  by_cases hb : b = a
  · subst hb
    change upd (upd H dx _) b _ b = some o at q
    rw [upd_same] at q
    cases q; exact exo_ok hx
  · by_cases hd : b = dx
    · subst hd
      change upd (upd H b _) a _ b = some o at q
      rw [upd_ne hb, upd_same] at q
      cases q; exact exd_ok hn (relO_put (fs := []) ry fun g => True.intro)
    · have q0 : H b = some o := (at_ hb hd).symm.trans q
      refine (I.hok b o q0).stay (fun c v hc z => kp c v ?_ z) (fun c hc => HNo hc (at_ne ea hc exo_own)) (fun c xs hc => HNo hc (at_ne ea hc exo_tup))
      rcases hc with rfl | hc
      · exact hb
      · exact at_ne ea hc exo_own
end
/-- self.f = e, in an error's own __init__ -/
def tOstB (K : PySem.W.Frag) (f : Str) (to te : TE) : TS := fun D σ H => te σ H fun y H1 => to σ H1 fun x H2 => ∃ a C : Addr, x = .ref a ∧ OexB K C ∧ PySem.W.findIn K (.ref C) f = some none ∧
  H2 a = some (exo a C none) ∧ ∀ dx, H2 dx = none → dx ≠ a → D.nx σ (upd (upd H2 dx (exd dx [(f, y)])) a (exo a C (some dx)))
theorem ps_ostB {X : Cx} {o e : Expr} {to te : TE} {f : Str} {p' pos : Pos} (ho : PE X o to) (he : PE X e te) (hs : swapsWith e (some (.Attribute o f p')) pos.line X.env = pure false := by rfl) : PS X (.Assign [.Attribute o f p'] e pos) (tOstB X.K f to te) := by
  refine ⟨fun pins s σ H D I h => ?_⟩
  refine plainObj_wpAny_Assign_Attribute (thn (he.run pins s σ H _ I h) fun v s1 z => ?_) hs
  obtain ⟨y, H1, I1, r1, q1⟩ := z
  refine thn (ho.run pins s1 σ H1 _ I1 q1) fun w s2 z => ?_
  obtain ⟨x, H2, I2, r2, a, C, ex, T, nf, ea, q⟩ := z
  subst ex
  obtain rfl : w = Value.ref a := r2
  exact first_fld T I2 ea nf r1 fun dx s' n ne J => ⟨σ, _, J, q dx n ne⟩
section
variable {X : Cx} {e : Expr} {es : List Expr} {ta : TA} {p pos : Pos}
theorem pmk_oexB {CX : CXT} {x : Str} {C fI : Addr} {k : Nat} {fd : FuncData} {ps : List Str} {sp : Sp} {ds : List Value} {dvs : List V} (T : OexB X.K C) (iC : PySem.W.findIn X.K (.ref C) "__init__" = some (some (.ref fI))) (tI : PySem.W.typeIn X.K (.ref fI) = some (.type "function"))
    (F1 : FnOk X.prog X.w X.K X.mg X.base CX k fI fd ps sp) (hr : Room (k + 1) X.A) (hb : Binds X.K fd ps ds) (hd : Vals dvs ds) (hx : Passes CX X (fun _ _ _ => False)) (hg : Gl X x) (hm : X.mg x = some (.ref C)) (ha : PA X (e :: es) ta)
    (hdb : (x == ("__debug__" : Str)) = false := by decide) (he : starEach (e :: es) X.env = (false, eval e X.env) :: starEach es X.env := by rfl) (hpl : (backTo pos (starEach es X.env)).any (·.1) = false := by rfl) : PMk X (.Call (.Name x p) (e :: es) [] pos) (tMkO C sp dvs ta) := by
  intro pins s σ H Q I h
  obtain ⟨B, ni, ii, bm, FB, _, ob, nm, q, N, bs, sn, sub, ab, col, dd, k0, k1, k2, k3, k5, hC⟩ := T.cls
  refine wpAny_Call_Name_kw (ld_glob I hg hm ?_ hdb)
  refine PySem.W.callWith_K (h₀ := X.base) I.ok.mod.kin T.kC (thn (ha.run pos pins s σ H _ I h) fun us s1 z => ?_) he hpl
  obtain ⟨vs, H1, I1, r1, hz, q1⟩ := z
  refine ⟨I1.kIn, ?_⟩
  show wpAny _ _ (call (.ref C) us) _ _ _
  obtain ⟨h0, ge, dr, tk, os⟩ := s1
  have ls : h0.objs.size ≤ h0.objs.size + 1 := Nat.le_succ _
  have nn : H1 (h0.objs.size + 1) = none := I1.hok.fresh ls
  have hq := q1 _ nn
  let h1 := (h0.push (PySem.W.kdv_tup us)).push (PySem.HandSPX.excO C h0.objs.size)
  have kk : ∀ b o, h0.get? b = some o → h1.get? b = some o := fun b o z => Heap.get?_push_of_some _ (Heap.get?_push_of_some _ z)
  have hget : h1.get? (h0.objs.size + 1) = some (PySem.HandSPX.excO C h0.objs.size) := by
    show ((h0.push (PySem.W.kdv_tup us)).push (PySem.HandSPX.excO C h0.objs.size)).get? _ = _
    heap_get
  have I2 : Inv X pins σ (upd H1 (h0.objs.size + 1) (exo (h0.objs.size + 1) C none)) ⟨h1, ge, dr, tk, os⟩ := I1.laid (t' := tk) (a := h0.objs.size + 1) (o := exo (h0.objs.size + 1) C none) (h' := h1) kk ls (exo_ok hget)
  have r2 : Vals (V.ref (h0.objs.size + 1) :: (vs ++ dvs)) (Value.ref (h0.objs.size + 1) :: (us ++ ds)) := .cons rfl (r1.append hd)
  have hl : (Value.ref (h0.objs.size + 1) :: us ++ ds).length = ps.length := (r2.length.symm.trans (F1.len _ _ _ _ hq))
  have hus : us.length ≤ sizeLine := by have := Paired.length r1; rw [sizeLine_eq]; omega
  refine wpAny_call (PySem.HandSPX.call_own FB (fun Y => rfl) (I1.kIn _ _ hC) (PySem.W.looks_findIn I1.kIn iC) (fun self => PySem.W.bind_fn I1.kIn self tI) hus (codeAny_mono (F1.run _ X.stack _ _ ⟨Value.ref (h0.objs.size + 1) :: us, []⟩ (Value.ref (h0.objs.size + 1) :: (us ++ ds)) _ _ (fun _ _ _ => False) (hr.make C us []) (I2.env0.make C us []) (hb _ (Value.ref (h0.objs.size + 1) :: us) I2.kIn hl) r2 hq) fun r s' z => ?_))
  match r, z with
  | .error er, z => exact hx pins σ _ _ er s' I2 z
  | .ok (.ret w), z =>
    obtain ⟨v, H2, o2, b2, un2, hok2, rv, ev, d, fs, fa, fd', fn, q2⟩ := z
    subst ev
    obtain ⟨h2, g2, d2, t2, os'⟩ := s'
    exact ⟨rv, mk_end (raises_own T.exC T.tyC) I1 ls kk un2 hok2 o2 b2 fa fd' fn q2⟩
  | .ok .next, z => exact z.elim
  | .ok .brk, z => exact z.elim
  | .ok .cont, z => exact z.elim
end
/-- what the top has left of such a class -/
structure ErrB (P : Program) (w : World) (K : PySem.W.Frag) (mg : Str → Option Value) (bh : Heap) (x f : Str) (C fI : Addr) (fd : FuncData) : Prop where
  oex : OexB K C
  xf : XfC K C
  noF : PySem.W.findIn K (.ref C) f = some none
  iC : PySem.W.findIn K (.ref C) "__init__" = some (some (.ref fI))
  tI : PySem.W.typeIn K (.ref fI) = some (.type "function")
  gC : mg x = some (.ref C)
  ini : FnOk P w K mg bh CX0 1 fI fd ["self", f] (sp_init C f)
  bd : Binds K fd ["self", f] []
section
variable {X : Cx} {x f : Str} {C fI : Addr} {fd : FuncData} {e : Expr} {te : TE} {W : WX} {p pos pos2 : Pos}
theorem ps_raiseB {k : Nat} (hc : X.calm = true) (T : ErrB X.prog X.w X.K X.mg X.base x f C fI fd) (rm : Room k X.A) (hk : 2 ≤ k) (tk : Takes X W) (hg : Gl X x) (he : PE X e te) (hdb : (x == ("__debug__" : Str)) = false := by decide)
    (hs : starEach [e] X.env = (false, eval e X.env) :: starEach [] X.env := by rfl) (hpl : (backTo pos (starEach [] X.env)).any (·.1) = false := by rfl) :
    PS X (.Raise (some (.Call (.Name x p) [e] [] pos)) none pos2) (fun _ σ H => tMkO C (sp_init C f) [] (tCons te tNil) σ H fun cls d H' => W cls d σ H') :=
  ps_raise hc tk (pmk_oexB T.oex T.iC T.tI T.ini (rm.mono hk) T.bd .nil pass0 hg T.gC (pa_cons he pa_nil hs) hdb hs hpl)
end
section
variable {P : Program} {w : World} {K : PySem.W.Frag} {mg : Str → Option Value} {bh : Heap} {C : Addr} {f qu : Str} {st : Stmt} {fI : Addr} {fd : FuncData} {q1 q2 q3 q4 : Pos}
theorem ok_initB (F : Fun K "__init__" qu st fI fd) (S : FnScope ["self", f] ["self", f] (defScope st)) (O : OexB K C) (noF : PySem.W.findIn K (.ref C) f = some none)
    (hb : defBody st = [.Assign [.Attribute (.Name "self" q1) f q2] (.Name f q3) q4]) (hf1 : (f == ("__debug__" : Str)) = false) (hf2 : (f == ("__classdict__" : Str)) = false)
    (v0 : (defScope st).names.lookup ("self" : Str) = some .local) (v1 : (defScope st).names.lookup f = some .local) : FnOk P w K mg bh CX0 1 fI fd ["self", f] (sp_init C f) := by
  refine F.ok S (fun vs H Q E h => ?_) (fun cdv A outer s H vs Q E hr h => ?_)
  · obtain ⟨a, v, rfl, _⟩ := h
    rfl
  · obtain ⟨a, v, rfl, ha, q⟩ := h
    rw [hb]
    refine ⟨_, pss_one (ps_ostB (pv 0 rfl (Or.inl v0) (by decide) (by decide)) (pv 1 rfl (Or.inl v1) hf1 hf2)), ?_⟩
    exact ⟨_, rfl, _, rfl, a, C, rfl, O, noF, ha, fun dx n ne => q dx n ne⟩
end
end Spk
namespace Spk
open PySem PySem.Spec PyProof.Rows L2
/-! ### what a spread leaves free -/
def uncZ (us : List Pr) : List Pr := (-10000000000000000000000000000000 :: us.map fun p : Pr => p.2).zip ((us.map fun p : Pr => p.1) ++ [10000000000000000000000000000000])
def uncM (us : List Pr) : List Pr := (uncZ us).filter fun p => decide (p.1 < p.2)
theorem uncZ_len (us : List Pr) : (uncZ us).length = us.length + 1 := by
  unfold uncZ
  rw [List.length_zip, List.length_cons, List.length_append, List.length_map, List.length_map, List.length_singleton]
  omega
theorem strP_edges {p : Pr} (h : strP p = true) : edgeI p.1 = true ∧ edgeI p.2 = true := by
  unfold strP at h
  simp only [Bool.and_eq_true] at h
  exact ⟨h.1.1, h.1.2⟩
theorem uncM_str {us : List Pr} (h : ∀ u ∈ us, strP u = true) : ∀ p ∈ uncM us, strP p = true := by
  intro p hp
  obtain ⟨hz, hl⟩ := List.mem_filter.mp hp
  have hl : p.1 < p.2 := of_decide_eq_true hl
  obtain ⟨h1, h2⟩ := List.of_mem_zip (a := p.1) (b := p.2) hz
  have e1 : edgeI p.1 = true := by
    rcases List.mem_cons.mp h1 with e | h1
    · rw [e]; decide +kernel
    · obtain ⟨u, hu, e⟩ := List.mem_map.mp h1
      rw [← e]; exact (strP_edges (h u hu)).2
  have e2 : edgeI p.2 = true := by
    rcases List.mem_append.mp h2 with h2 | h2
    · obtain ⟨u, hu, e⟩ := List.mem_map.mp h2
      rw [← e]; exact (strP_edges (h u hu)).1
    · rw [List.mem_singleton.mp h2]; decide +kernel
  have b1 : -10000000000000000000000000000000 ≤ p.1 := by
    unfold edgeI at e1
    simp only [Bool.and_eq_true, Bool.or_eq_true, decide_eq_true_eq] at e1
    omega
  have b2 : p.2 ≤ 10000000000000000000000000000000 := by
    unfold edgeI at e2
    simp only [Bool.and_eq_true, Bool.or_eq_true, decide_eq_true_eq] at e2
    omega
  unfold strP
  rw [e1, e2, decide_eq_true (show p.1 ≤ p.2 by omega), decide_eq_true (show p.1 < 10000000000000000000000000000000 by omega), decide_eq_true (show p.2 > -10000000000000000000000000000000 by omega)]
  rfl
theorem uncM_len (us : List Pr) : (uncM us).length ≤ us.length + 1 := by
  refine Nat.le_trans (List.length_filter_le ..) ?_
  rw [uncZ_len]
  exact Nat.le_refl _
/-- Spreads beside Spans, as isinstance asks -/
structure SprI (K : PySem.W.Frag) (CS CD : Addr) : Prop where
  sp : SprC K CD
  sn : SpnC K CS
  self : PySem.W.selfFirst K CD = true
  noS : PySem.W.kitOne K (.ref CD) (.ref CS) = some false
  noI : PySem.W.kitOne K (.ref CD) (.type "int") = some false
  ha : PySem.W.findIn K (.ref CD) "__class__" = some (some (.builtin "object.__class__"))
  hm : PySem.W.mroIn K CD (.type "object") = some true
theorem SprI.ty {K : PySem.W.Frag} {CS CD a dx : Addr} {fs : List (Str × V)} {H : Hp} (c : SprI K CS CD) (e : H a = some (.ins CD dx fs)) : TyX K H (.ref a) (.ref CD) := .base (.ins e c.sp.cl c.ha c.sn.hn c.sn.ht c.hm)
end Spk
namespace Spk
open PySem PySem.Spec PyProof.Rows L2
/-- an own operator's method, ready to be used -/
structure RdyOp (P : Program) (w : World) (K : PySem.W.Frag) (mg : Str → Option Value) (bh : Heap) (C : Addr) (m : Str) (k : Nat) (sp : Sp) (f : Addr) : Prop where
  ok : FnR P w K mg bh CX0 k f sp
  at_ : PySem.W.findIn K (.ref C) m = some (some (.ref f))
  fn : PySem.W.isFn K (.ref f) = true
theorem IsSpr.ins {H : Hp} {C o : Addr} {us : List Pr} (h : IsSpr H C o us) : ∃ dx fs, H o = some (.ins C dx fs) := by
  obtain ⟨dx, t, ts, h1, _⟩ := h
  exact ⟨dx, _, h1⟩
end Spk
namespace Spk
open PySem PySem.Spec PyProof.Rows L2
def invM (us : List Pr) : List Pr := unionM false (uncM us)
def orM (us ws : List Pr) : List Pr := unionM false (us ++ ws)
def subM (us ws : List Pr) : List Pr := invM (orM (invM us) ws)
/-- what the signs want of the pairs of a spread: stretches, at most n of them -/
structure Few (us : List Pr) (n : Nat) : Prop where
  str : ∀ u ∈ us, strP u = true
  len : us.length ≤ n
theorem Few.more {us : List Pr} {n m : Nat} (h : Few us n) (e : n ≤ m) : Few us m := ⟨h.str, Nat.le_trans h.len e⟩
theorem Few.inv {us : List Pr} {n : Nat} (h : Few us n) : Few (invM us) (n + 2) := ⟨fun u hu => (union_edges (uncM_str h.str) u hu).1, Nat.le_trans (union_len false _) (by have := uncM_len us; have := h.len; omega)⟩
theorem str_app {us ws : List Pr} (h : ∀ u ∈ us, strP u = true) (k : ∀ u ∈ ws, strP u = true) : ∀ u ∈ us ++ ws, strP u = true := fun u hu => by
  rcases List.mem_append.mp hu with h' | h'
  · exact h u h'
  · exact k u h'
theorem Few.or {us ws : List Pr} {n m : Nat} (h : Few us n) (k : Few ws m) : Few (orM us ws) (n + m + 1) := ⟨fun u hu => (union_edges (str_app h.str k.str) u hu).1, Nat.le_trans (union_len false _) (by rw [List.length_append]; have := h.len; have := k.len; omega)⟩
theorem Few.sub {us ws : List Pr} {n m : Nat} (h : Few us n) (k : Few ws m) : Few (subM us ws) (n + m + 5) := (h.inv.or k).inv.more (by omega)
end Spk
namespace Spk
open PySem PySem.Spec PyProof.Rows L2
theorem SprI.any {K : PySem.W.Frag} {CS CD : Addr} (c : SprI K CS CD) : PySem.W.kitAny K (.ref CD) [.ref CS, .ref CD] = some true :=
  kitAny_cons c.noS (fun _ => kitAny_cons (kit_self CD) (fun z => nomatch z) fun _ => rfl) (fun z => nomatch z)
end Spk
namespace Spk
open PySem PySem.Spec PyProof.Rows L2
/-! ### the pure layer: what a def computes, as a function of data -/
/-- data as the texts here use it: an instance is its class's name, its fields' names and what they hold -/
inductive D where
  | non | bl (b : Bool) | int (i : Int) | str (x : Str) | lst (ds : List D) | tup (ds : List D) | ins (C : Str) (ks : List Str) (ds : List D) | scr (ns : List Int)
/-- the written part, and where a class of a name stands -/
structure Gx where
  K : PySem.W.Frag
  cm : Str → Addr
  /-- the exception that is handled: where it stands, its class, its dict -/
  ex : Option (Addr × Value × Option Addr) := none
  /-- the tables of code objects: what they are called, the name that the lambdas in them bear -/
  T : List (Str × Str) := []
/-- the tables stand -/
def TabsG (G : Gx) (H : Hp) : Prop := ∀ p ∈ G.T, LamX.TabS H (G.cm p.1) p.2
theorem TabsG.ext {G : Gx} {H H' : Hp} (t : TabsG G H) (e : Same H H') : TabsG G H' := fun p hp => (t p hp).ext fun b o h => e b o h
theorem TabsG.write {G : Gx} {H : Hp} {p : Addr} {o w : HO} (t : TabsG G H) (hp : H p = some o) (n1 : ∀ ps, o ≠ .tbl ps) (n2 : ∀ c q, o ≠ LamX.CodeO c q) : TabsG G (upd H p w) := fun z hz => by
  obtain ⟨ps, h1, h2, h3⟩ := t z hz
  have k : ∀ b u, H b = some u → u ≠ o → upd H p w b = some u := fun b u e n => by
    rw [upd_ne (fun z => n (by rw [z, hp] at e; exact (Option.some.inj e).symm))]; exact e
  refine ⟨ps, k _ _ h1 fun z => n1 ps z.symm, h2, fun pos cv hc => ?_⟩
  obtain ⟨c, e1, e2⟩ := h3 pos cv hc
  exact ⟨c, e1, k _ _ e2 fun z => n2 _ _ z.symm⟩
mutual
inductive Rp (G : Gx) (H : Hp) : V → D → Prop
  | non : Rp G H .non .non
  | bl (b : Bool) : Rp G H (.bl b) (.bl b)
  | int (i : Int) : Rp G H (.int i) (.int i)
  | str {x : Str} (h : PyData.canLay0 (.str x) = true) : Rp G H (.str x) (.str x)
  | lst {a : Addr} {xs : List V} {ds : List D} : H a = some (.lst xs) → RpL G H xs ds → Rp G H (.ref a) (.lst ds)
  | scr {a : Addr} {ns : List Int} : SqL G.K H a (ns.map V.int) → Rp G H (.ref a) (.scr ns)
  | tup {a : Addr} {xs : List V} {ds : List D} : SqT G.K H a xs → RpL G H xs ds → Rp G H (.ref a) (.tup ds)
  | ins {a dx : Addr} {C : Str} {ks : List Str} {xs : List V} {ds : List D} : H a = some (.ins (G.cm C) dx (ks.zip xs)) → xs.length = ks.length → RpL G H xs ds → Rp G H (.ref a) (.ins C ks ds)
inductive RpL (G : Gx) (H : Hp) : List V → List D → Prop
  | nil : RpL G H [] []
  | cons {v : V} {vs : List V} {d : D} {ds : List D} : Rp G H v d → RpL G H vs ds → RpL G H (v :: vs) (d :: ds)
end
section
variable {G : Gx} {H H' : Hp}
mutual
theorem Rp.same (e : Same H H') : ∀ (d : D) {v : V}, Rp G H v d → Rp G H' v d
  | .non, _, h => by cases h; exact .non
  | .bl b, _, h => by cases h; exact .bl b
  | .int i, _, h => by cases h; exact .int i
  | .str x, _, h => by cases h with | str h => exact .str h
  | .lst ds, _, h => by cases h with | lst q r => exact .lst (e _ _ q) (RpL.same e ds r)
  | .scr ns, _, h => by cases h with | scr q => exact .scr (e.seq q)
  | .tup ds, _, h => by cases h with | tup q r => exact .tup (sameT e q) (RpL.same e ds r)
  | .ins C ks ds, _, h => by cases h with | ins q l r => exact .ins (e _ _ q) l (RpL.same e ds r)
theorem RpL.same (e : Same H H') : ∀ (ds : List D) {vs : List V}, RpL G H vs ds → RpL G H' vs ds
  | [], _, h => by cases h; exact .nil
  | d :: ds, _, h => by cases h with | cons a b => exact .cons (Rp.same e d a) (RpL.same e ds b)
end
theorem Rp.mono {v : V} {d : D} (h : Rp G H v d) (e : Same H H') : Rp G H' v d := Rp.same e d h
theorem RpL.mono {vs : List V} {ds : List D} (h : RpL G H vs ds) (e : Same H H') : RpL G H' vs ds := RpL.same e ds h
theorem RpL.len : ∀ {vs : List V} {ds : List D}, RpL G H vs ds → vs.length = ds.length
  | _, _, .nil => rfl
  | _, _, .cons _ r => congrArg (· + 1) (RpL.len r)
theorem RpL.get : ∀ {vs : List V} {ds : List D}, RpL G H vs ds → ∀ {i : Nat} {v : V}, vs[i]? = some v → ∃ d, ds[i]? = some d ∧ Rp G H v d
  | _, _, .nil, _, _, e => by simp at e
  | _, _, .cons r _, 0, v, e => by
    obtain rfl := Option.some.inj (by simpa using e)
    exact ⟨_, rfl, r⟩
  | _, _, .cons _ t, i + 1, v, e => by
    obtain ⟨d, h1, h2⟩ := RpL.get t (i := i) (v := v) (by simpa using e)
    exact ⟨d, by simpa using h1, h2⟩
theorem RpL.getD : ∀ {vs : List V} {ds : List D}, RpL G H vs ds → ∀ {i : Nat} {d : D}, ds[i]? = some d → ∃ v, vs[i]? = some v ∧ Rp G H v d
  | _, _, .nil, _, _, e => by simp at e
  | _, _, .cons r _, 0, v, e => by
    obtain rfl := Option.some.inj (by simpa using e)
    exact ⟨_, rfl, r⟩
  | _, _, .cons _ t, i + 1, v, e => by
    obtain ⟨d, h1, h2⟩ := RpL.getD t (i := i) (d := v) (by simpa using e)
    exact ⟨d, by simpa using h1, h2⟩
theorem RpL.app : ∀ {vs : List V} {ds : List D} {ws : List V} {es : List D}, RpL G H vs ds → RpL G H ws es → RpL G H (vs ++ ws) (ds ++ es)
  | _, _, _, _, .nil, s => s
  | _, _, _, _, .cons r t, s => .cons r (RpL.app t s)
theorem RpL.take : ∀ {vs : List V} {ds : List D} (n : Nat), RpL G H vs ds → RpL G H (vs.take n) (ds.take n)
  | _, _, 0, _ => .nil
  | _, _, _ + 1, .nil => .nil
  | _, _, n + 1, .cons r t => .cons r (RpL.take n t)
theorem RpL.drop : ∀ {vs : List V} {ds : List D} (n : Nat), RpL G H vs ds → RpL G H (vs.drop n) (ds.drop n)
  | _, _, 0, r => r
  | _, _, _ + 1, .nil => .nil
  | _, _, n + 1, .cons _ t => RpL.drop n t
theorem RpL.set {v : V} {d : D} (r : Rp G H v d) : ∀ {vs : List V} {ds : List D} (i : Nat), RpL G H vs ds → RpL G H (vs.set i v) (ds.set i d)
  | _, _, _, .nil => .nil
  | _, _, 0, .cons _ t => .cons r t
  | _, _, i + 1, .cons q t => .cons q (RpL.set r i t)
end
/-! ### a def's names: what their slots hold -/
/-- not known; frozen data; a list of one's own (it may change); the caller's list (it may change, and stays where it is) -/
inductive Mu where
  | lst (ds : List D) | obj (C : Str) (ks : List Str) (ds : List D) | dct (ks : List Key) (ds : List D)
inductive Cell where
  | no | val (d : D) | own (m : Mu) | bor (m : Mu)
  /-- the exception that is handled -/
  | exn (C f : Str) (d : D)
abbrev PEnv := List Cell
def Cell.mu? : Cell → Option Mu
  | .own m => some m
  | .bor m => some m
  | _ => none
def Mu.lst? : Mu → Option (List D)
  | .lst ds => some ds
  | _ => none
def Cell.lst? (c : Cell) : Option (List D) := c.mu?.bind Mu.lst?
theorem Cell.of_lst {c : Cell} {ds : List D} (h : c.lst? = some ds) : c.mu? = some (.lst ds) := by
  obtain ⟨m, h1, h2⟩ := Option.bind_eq_some_iff.mp h
  cases m with
  | lst es => cases h2; exact h1
  | obj C ks es => cases h2
  | dct ks es => cases h2
def MuOk (G : Gx) (Hf : Hp) : HO → Mu → Prop
  | .lst vs, .lst ds => RpL G Hf vs ds
  | .ins c _ fs, .obj C ks ds => c = G.cm C ∧ ∃ vs, fs = ks.zip vs ∧ vs.length = ks.length ∧ RpL G Hf vs ds
  | .dK kvs, .dct ks ds => ∃ vs, kvs = ks.zip vs ∧ vs.length = ks.length ∧ RpL G Hf vs ds
  | _, _ => False
theorem MuOk.mono {G : Gx} {Hf Hf' : Hp} {o : HO} {m : Mu} (h : MuOk G Hf o m) (s : Same Hf Hf') : MuOk G Hf' o m := by
  cases m with
  | lst ds =>
    cases o <;> try exact h
    exact RpL.mono h s
  | obj C ks ds =>
    cases o <;> try exact h
    obtain ⟨e, vs, e2, l, r⟩ := h
    exact ⟨e, vs, e2, l, r.mono s⟩
  | dct ks ds =>
    cases o <;> try exact h
    obtain ⟨vs, e2, l, r⟩ := h
    exact ⟨vs, e2, l, r.mono s⟩
theorem MuOk.lst {G : Gx} {Hf : Hp} {o : HO} {ds : List D} (h : MuOk G Hf o (.lst ds)) : ∃ vs, o = .lst vs ∧ RpL G Hf vs ds := by
  cases o <;> try exact h.elim
  exact ⟨_, rfl, h⟩
theorem TabsG.lst {G : Gx} {H : Hp} {p : Addr} {xs : List V} {w : HO} (t : TabsG G H) (hp : H p = some (.lst xs)) : TabsG G (upd H p w) := t.write hp (fun _ z => by cases z) fun c q z => by unfold LamX.CodeO at z; cases z
theorem mu_tbl {G : Gx} {Hf : Hp} {ps : Array Value} {m : Mu} (h : MuOk G Hf (.tbl ps) m) : False := by cases m <;> exact h
theorem mu_code {G : Gx} {Hf : Hp} {c : Addr} {q : Str} {m : Mu} (h : MuOk G Hf (LamX.CodeO c q) m) : False := by cases m <;> exact h
/-- what a def must leave alone; where the caller's lists stand -/
structure Fr where
  Pt : Hp
  Bp : Nat → Addr
/-- the tables of code objects stand; no table is protected or frozen, it may grow -/
structure TB (G : Gx) (F : Fr) (H Hf : Hp) : Prop where
  tb : TabsG G H
  nt : ∀ (a : Addr) (ps : Array Value), F.Pt a ≠ some (.tbl ps)
  nf : ∀ (a : Addr) (ps : Array Value), Hf a ≠ some (.tbl ps)
theorem upd_nf {Hf : Hp} {q : Addr} {o : HO} (h : ∀ (a : Addr) (ps : Array Value), Hf a ≠ some (.tbl ps)) (nl : ∀ ps, o ≠ .tbl ps) : ∀ (a : Addr) (ps : Array Value), upd Hf q o a ≠ some (.tbl ps) := fun a ps e => by
  by_cases c : a = q
  · rw [c, upd_same] at e; exact nl ps (Option.some.inj e)
  · rw [upd_ne c] at e; exact h a ps e
theorem TB.ext {G : Gx} {F : Fr} {H H' Hf : Hp} (t : TB G F H Hf) (e : Same H H') : TB G F H' Hf := ⟨t.tb.ext e, t.nt, t.nf⟩
theorem TB.lst {G : Gx} {F : Fr} {H Hf : Hp} {p : Addr} {xs : List V} {w : HO} (t : TB G F H Hf) (hp : H p = some (.lst xs)) : TB G F (upd H p w) Hf := ⟨t.tb.lst hp, t.nt, t.nf⟩
structure MutOk (G : Gx) (F : Fr) (σ : L2.St) (H Hf : Hp) (i : Nat) (m : Mu) (p : Addr) : Prop where
  at_ : σ[i]? = some (some (.ref p))
  nf : Hf p = none
  np : F.Pt p = none
  ls : ∃ o, H p = some o ∧ MuOk G Hf o m
def CellOk (G : Gx) (F : Fr) (σ : L2.St) (H Hf : Hp) (i : Nat) : Cell → Prop
  | .no => True
  | .val d => ∃ v, σ[i]? = some (some v) ∧ Rp G Hf v d
  | .own ds => ∃ p, MutOk G F σ H Hf i ds p
  | .bor ds => MutOk G F σ H Hf i ds (F.Bp i)
  | .exn C f d => ∃ (a dd : Addr) (v : V), G.ex = some (a, .ref (G.cm C), some dd) ∧ σ[i]? = some (some (.ref a)) ∧ Hf dd = some (.xd [(f, v)]) ∧ Rp G Hf v d
theorem CellOk.mut {G : Gx} {F : Fr} {σ : L2.St} {H Hf : Hp} {i : Nat} {c : Cell} {ds : Mu} (h : CellOk G F σ H Hf i c) (e : c.mu? = some ds) : ∃ p, MutOk G F σ H Hf i ds p := by
  cases c with
  | no => cases e
  | val d => cases e
  | own es => obtain rfl := Option.some.inj e; exact h
  | bor es => obtain rfl := Option.some.inj e; exact ⟨_, h⟩
  | exn C f d => cases e
structure Rep (G : Gx) (F : Fr) (σ : L2.St) (H Hf : Hp) (ρ : PEnv) : Prop where
  len : σ.length = ρ.length
  sub : Same Hf H
  cell : ∀ (i : Nat) (c : Cell), ρ[i]? = some c → CellOk G F σ H Hf i c
  apart : ∀ (i j : Nat) (ci cj : Cell) (ds es : Mu) (p : Addr), ρ[i]? = some ci → ρ[j]? = some cj → ci.mu? = some ds → cj.mu? = some es → σ[i]? = some (some (.ref p)) → σ[j]? = some (some (.ref p)) → i = j
  prot : ∀ (a : Addr) (o : HO), F.Pt a = some o → H a = some o ∧ Hf a = none
  tabs : TB G F H Hf
section
variable {G : Gx} {F : Fr} {σ : L2.St} {H Hf H' Hf' : Hp} {ρ : PEnv}
theorem MutOk.ne {i : Nat} {ds : Mu} {p q : Addr} (m : MutOk G F σ H Hf i ds p) (nq : H q = none) : p ≠ q := by
  obtain ⟨vs, h, _⟩ := m.ls
  exact ne_of_none h nq
theorem Rep.nf (R : Rep G F σ H Hf ρ) {q : Addr} (nq : H q = none) : Hf q = none := R.sub.free nq
/-- a new frozen object -/
theorem Rep.new (R : Rep G F σ H Hf ρ) {q : Addr} (nq : H q = none) (o : HO) (nl : ∀ ps, o ≠ .tbl ps := by intro _ z; cases z) : Rep G F σ (upd H q o) (upd Hf q o) ρ := by
  have nf := R.nf nq
  refine ⟨R.len, fun b u e => ?_, fun i c e => ?_, R.apart, fun a u e => ?_, ⟨(R.tabs.ext (Same.new nq)).tb, R.tabs.nt, upd_nf R.tabs.nf nl⟩⟩
  · by_cases h : b = q
    · subst h; rw [upd_same] at e ⊢; exact e
    · rw [upd_ne h] at e ⊢; exact R.sub _ _ e
  · have k := R.cell i c e
    have mk : ∀ ds p, MutOk G F σ H Hf i ds p → MutOk G F σ (upd H q o) (upd Hf q o) i ds p := fun ds p m => by
      obtain ⟨vs, h, r⟩ := m.ls
      have n := m.ne nq
      exact ⟨m.at_, by rw [upd_ne n]; exact m.nf, m.np, vs, by rw [upd_ne n]; exact h, r.mono (Same.new nf)⟩
    cases c with
    | no => trivial
    | val d => obtain ⟨v, h, r⟩ := k; exact ⟨v, h, r.mono (Same.new nf)⟩
    | own ds => obtain ⟨p, m⟩ := k; exact ⟨p, mk _ _ m⟩
    | bor ds => exact mk _ _ k
    | exn C f d => obtain ⟨a, dd, v, h0, h1, h2, r⟩ := k; exact ⟨a, dd, v, h0, h1, Same.new nf _ _ h2, r.mono (Same.new nf)⟩
  · obtain ⟨h1, h2⟩ := R.prot a u e
    have n := ne_of_none h1 nq
    exact ⟨by rw [upd_ne n]; exact h1, by rw [upd_ne n]; exact h2⟩
/-- a new object that nothing frozen knows of -/
theorem Rep.side (R : Rep G F σ H Hf ρ) {q : Addr} (nq : H q = none) (o : HO) : Rep G F σ (upd H q o) Hf ρ := by
  refine ⟨R.len, R.sub.trans (Same.new nq), fun i c e => ?_, R.apart, fun a u e => ?_, R.tabs.ext (Same.new nq)⟩
  · have k := R.cell i c e
    have mk : ∀ ds p, MutOk G F σ H Hf i ds p → MutOk G F σ (upd H q o) Hf i ds p := fun ds p m => by
      obtain ⟨vs, h, r⟩ := m.ls
      exact ⟨m.at_, m.nf, m.np, vs, by rw [upd_ne (m.ne nq)]; exact h, r⟩
    cases c with
    | no => trivial
    | val d => exact k
    | own ds => obtain ⟨p, m⟩ := k; exact ⟨p, mk _ _ m⟩
    | bor ds => exact mk _ _ k
    | exn C f d => exact k
  · obtain ⟨h1, h2⟩ := R.prot a u e
    exact ⟨by rw [upd_ne (ne_of_none h1 nq)]; exact h1, h2⟩
theorem set_at {α : Type} {l : List α} {i j : Nat} {x y : α} (h : (l.set i x)[j]? = some y) : (i = j ∧ y = x ∧ i < l.length) ∨ (i ≠ j ∧ l[j]? = some y) := by
  by_cases e : i = j
  · subst e
    by_cases hl : i < l.length
    · rw [List.getElem?_set_self hl] at h
      exact .inl ⟨rfl, (Option.some.inj h).symm, hl⟩
    · rw [List.getElem?_eq_none (by simpa using hl)] at h
      cases h
  · rw [List.getElem?_set_ne e] at h
    exact .inr ⟨e, h⟩
/-- a slot gets frozen data -/
theorem Rep.set (R : Rep G F σ H Hf ρ) (i : Nat) {v : V} {d : D} (r : Rp G Hf v d) : Rep G F (σ.set i (some v)) H Hf (ρ.set i (.val d)) := by
  refine ⟨by rw [List.length_set, List.length_set]; exact R.len, R.sub, fun j c e => ?_, fun j k cj ck ds es p ej ek mj mk sj sk => ?_, R.prot, R.tabs⟩
  · rcases set_at e with ⟨rfl, rfl, hl⟩ | ⟨ne, e⟩
    · exact ⟨v, by rw [List.getElem?_set_self (by rw [R.len]; exact hl)], r⟩
    · have k := R.cell j c e
      have mk : ∀ ds p, MutOk G F σ H Hf j ds p → MutOk G F (σ.set i (some v)) H Hf j ds p := fun ds p m => ⟨by rw [List.getElem?_set_ne ne]; exact m.at_, m.nf, m.np, m.ls⟩
      cases c with
      | no => trivial
      | val d => obtain ⟨w, h, r⟩ := k; exact ⟨w, by rw [List.getElem?_set_ne ne]; exact h, r⟩
      | own ds => obtain ⟨p, m⟩ := k; exact ⟨p, mk _ _ m⟩
      | bor ds => exact mk _ _ k
      | exn C f d => obtain ⟨a, dd, v, h0, h1, h2, r⟩ := k; exact ⟨a, dd, v, h0, by rw [List.getElem?_set_ne ne]; exact h1, h2, r⟩
  · rcases set_at ej with ⟨rfl, rfl, _⟩ | ⟨n1, ej⟩
    · cases mj
    rcases set_at ek with ⟨rfl, rfl, _⟩ | ⟨n2, ek⟩
    · cases mk
    rw [List.getElem?_set_ne n1] at sj
    rw [List.getElem?_set_ne n2] at sk
    exact R.apart j k cj ck ds es p ej ek mj mk sj sk
/-- a slot gets a list of its own -/
theorem Rep.setOwn (R : Rep G F σ H Hf ρ) (i : Nat) {p : Addr} {o : HO} {ds : Mu} (hp : H p = some o) (nf : Hf p = none) (np : F.Pt p = none) (r : MuOk G Hf o ds)
    (ap : ∀ (j : Nat) (c : Cell) (es : Mu), ρ[j]? = some c → c.mu? = some es → σ[j]? ≠ some (some (.ref p))) : Rep G F (σ.set i (some (.ref p))) H Hf (ρ.set i (.own ds)) := by
  refine ⟨by rw [List.length_set, List.length_set]; exact R.len, R.sub, fun j c e => ?_, fun j k cj ck es fs q ej ek mj mk sj sk => ?_, R.prot, R.tabs⟩
  · rcases set_at e with ⟨rfl, rfl, hl⟩ | ⟨ne, e⟩
    · exact ⟨p, by rw [List.getElem?_set_self (by rw [R.len]; exact hl)], nf, np, o, hp, r⟩
    · have k := R.cell j c e
      have mk : ∀ ds q, MutOk G F σ H Hf j ds q → MutOk G F (σ.set i (some (.ref p))) H Hf j ds q := fun ds q m => ⟨by rw [List.getElem?_set_ne ne]; exact m.at_, m.nf, m.np, m.ls⟩
      cases c with
      | no => trivial
      | val d => obtain ⟨w, h, r⟩ := k; exact ⟨w, by rw [List.getElem?_set_ne ne]; exact h, r⟩
      | own ds => obtain ⟨q, m⟩ := k; exact ⟨q, mk _ _ m⟩
      | bor ds => exact mk _ _ k
      | exn C f d => obtain ⟨a, dd, v, h0, h1, h2, r⟩ := k; exact ⟨a, dd, v, h0, by rw [List.getElem?_set_ne ne]; exact h1, h2, r⟩
  · rcases set_at ej with ⟨rfl, rfl, hl⟩ | ⟨n1, ej⟩ <;> rcases set_at ek with ⟨rfl, rfl, hl2⟩ | ⟨n2, ek⟩
    · rfl
    · rw [List.getElem?_set_self (by rw [R.len]; exact hl)] at sj
      rw [List.getElem?_set_ne n2] at sk
      cases sj
      exact absurd sk (ap k ck fs ek mk)
    · rw [List.getElem?_set_self (by rw [R.len]; exact hl2)] at sk
      rw [List.getElem?_set_ne n1] at sj
      cases sk
      exact absurd sj (ap j cj es ej mj)
    · rw [List.getElem?_set_ne n1] at sj
      rw [List.getElem?_set_ne n2] at sk
      exact R.apart j k cj ck es fs q ej ek mj mk sj sk
/-- a slot forgotten -/
theorem Rep.drop (R : Rep G F σ H Hf ρ) (i : Nat) (x : Option V) : Rep G F (σ.set i x) H Hf (ρ.set i .no) := by
  refine ⟨by rw [List.length_set, List.length_set]; exact R.len, R.sub, fun j c e => ?_, fun j k cj ck ds es p ej ek mj mk sj sk => ?_, R.prot, R.tabs⟩
  · rcases set_at e with ⟨rfl, rfl, hl⟩ | ⟨ne, e⟩
    · trivial
    · have k := R.cell j c e
      have mk : ∀ ds p, MutOk G F σ H Hf j ds p → MutOk G F (σ.set i x) H Hf j ds p := fun ds p m => ⟨by rw [List.getElem?_set_ne ne]; exact m.at_, m.nf, m.np, m.ls⟩
      cases c with
      | no => trivial
      | val d => obtain ⟨w, h, r⟩ := k; exact ⟨w, by rw [List.getElem?_set_ne ne]; exact h, r⟩
      | own ds => obtain ⟨p, m⟩ := k; exact ⟨p, mk _ _ m⟩
      | bor ds => exact mk _ _ k
      | exn C f d => obtain ⟨a, dd, v, h0, h1, h2, r⟩ := k; exact ⟨a, dd, v, h0, by rw [List.getElem?_set_ne ne]; exact h1, h2, r⟩
  · rcases set_at ej with ⟨rfl, rfl, _⟩ | ⟨n1, ej⟩
    · cases mj
    rcases set_at ek with ⟨rfl, rfl, _⟩ | ⟨n2, ek⟩
    · cases mk
    rw [List.getElem?_set_ne n1] at sj
    rw [List.getElem?_set_ne n2] at sk
    exact R.apart j k cj ck ds es p ej ek mj mk sj sk
def Cell.put (c : Cell) (ds : Mu) : Cell := match c with
  | .bor _ => .bor ds
  | _ => .own ds
/-- the list in a slot is changed -/
theorem Rep.write (R : Rep G F σ H Hf ρ) {i : Nat} {c : Cell} {ds : Mu} (e : ρ[i]? = some c) (ec : c.mu? = some ds) {p : Addr} (hs : σ[i]? = some (some (.ref p))) {ws : HO} {es : Mu} (r : MuOk G Hf ws es) :
    Rep G F σ (upd H p ws) Hf (ρ.set i (c.put es)) := by
  obtain ⟨p', m⟩ := (R.cell i c e).mut ec
  obtain rfl : p' = p := by
    have := m.at_
    rw [hs] at this
    cases this; rfl
  have hi : i < ρ.length := (List.getElem?_eq_some_iff.mp e).1
  refine ⟨by rw [List.length_set]; exact R.len, fun b o eb => ?_, fun j cj ej => ?_, fun j k cj ck es fs q ej ek mj mk sj sk => ?_, fun a o ea => ?_, ?_⟩
  · rw [upd_ne (ne_of_none eb m.nf)]; exact R.sub _ _ eb
  · rcases set_at ej with ⟨rfl, rfl, hl⟩ | ⟨ne, ej⟩
    · have new : MutOk G F σ (upd H p' ws) Hf i es p' := ⟨hs, m.nf, m.np, ws, upd_same, r⟩
      have k := R.cell i c e
      cases c with
      | no => cases ec
      | val d => cases ec
      | exn C f d => cases ec
      | own ds => exact ⟨p', new⟩
      | bor ds =>
        have : F.Bp i = p' := by
          have h := (show MutOk G F σ H Hf i ds (F.Bp i) from k).at_
          rw [hs] at h
          cases h; rfl
        show MutOk G F σ (upd H p' ws) Hf i es (F.Bp i)
        rw [this]; exact new
    · have k := R.cell j cj ej
      have mk : ∀ ds' q, cj.mu? = some ds' → MutOk G F σ H Hf j ds' q → MutOk G F σ (upd H p' ws) Hf j ds' q := fun ds' q mj m' => by
        obtain ⟨vs, h, r'⟩ := m'.ls
        have nq : q ≠ p' := fun z => ne (R.apart i j c cj ds ds' p' e ej ec mj hs (z ▸ m'.at_))
        exact ⟨m'.at_, m'.nf, m'.np, vs, by rw [upd_ne nq]; exact h, r'⟩
      cases cj with
      | no => trivial
      | val d => exact k
      | own ds => obtain ⟨q, m'⟩ := k; exact ⟨q, mk _ _ rfl m'⟩
      | bor ds => exact mk _ _ rfl k
      | exn C f d => exact k
  · rcases set_at ej with ⟨rfl, rfl, _⟩ | ⟨n1, ej⟩ <;> rcases set_at ek with ⟨rfl, rfl, _⟩ | ⟨n2, ek⟩
    · rfl
    · exact R.apart i k c ck ds fs q e ek ec mk sj sk
    · exact R.apart j i cj c es ds q ej e mj ec sj sk
    · exact R.apart j k cj ck es fs q ej ek mj mk sj sk
  · obtain ⟨h1, h2⟩ := R.prot a o ea
    have : a ≠ p' := fun z => by rw [z, m.np] at ea; cases ea
    exact ⟨by rw [upd_ne this]; exact h1, h2⟩
  · obtain ⟨o0, hp, r0⟩ := m.ls
    refine ⟨R.tabs.tb.write hp ?_ ?_, R.tabs.nt, R.tabs.nf⟩
    all_goals first | exact fun ps z => by subst z; exact mu_tbl r0 | exact fun c q z => by subst z; exact mu_code r0
/-- a list of one's own is frozen -/
theorem Rep.freeze (R : Rep G F σ H Hf ρ) {i : Nat} {ds : List D} (e : ρ[i]? = some (.own (.lst ds))) : ∃ Hf', Same Hf Hf' ∧ Rep G F σ H Hf' (ρ.set i (.val (.lst ds))) := by
  obtain ⟨p, m⟩ := R.cell i _ e
  obtain ⟨o0, hp, r0⟩ := m.ls
  obtain ⟨vs, rfl, r⟩ := r0.lst
  have sf : Same Hf (upd Hf p (.lst vs)) := Same.new m.nf
  refine ⟨upd Hf p (.lst vs), sf, by rw [List.length_set]; exact R.len, fun b o eb => ?_, fun j c ej => ?_, fun j k cj ck es fs q ej ek mj mk sj sk => ?_, fun a o ea => ?_, ⟨R.tabs.tb, R.tabs.nt, upd_nf R.tabs.nf fun _ z => by cases z⟩⟩
  · by_cases h : b = p
    · subst h; rw [upd_same] at eb; cases eb; exact hp
    · rw [upd_ne h] at eb; exact R.sub _ _ eb
  · rcases set_at ej with ⟨rfl, rfl, hl⟩ | ⟨ne, ej⟩
    · exact ⟨.ref p, m.at_, .lst upd_same (r.mono sf)⟩
    · have k := R.cell j c ej
      have mk : ∀ ds' q, c.mu? = some ds' → MutOk G F σ H Hf j ds' q → MutOk G F σ H (upd Hf p (.lst vs)) j ds' q := fun ds' q mj m' => by
        obtain ⟨ws, h, r'⟩ := m'.ls
        have nq : q ≠ p := fun z => ne (R.apart i j _ c (.lst ds) ds' p e ej rfl mj m.at_ (z ▸ m'.at_))
        exact ⟨m'.at_, by rw [upd_ne nq]; exact m'.nf, m'.np, ws, h, r'.mono sf⟩
      cases c with
      | no => trivial
      | val d => obtain ⟨w, h, r⟩ := k; exact ⟨w, h, r.mono sf⟩
      | own ds => obtain ⟨q, m'⟩ := k; exact ⟨q, mk _ _ rfl m'⟩
      | bor ds => exact mk _ _ rfl k
      | exn C f d => obtain ⟨a, dd, v, h0, h1, h2, r⟩ := k; exact ⟨a, dd, v, h0, h1, sf _ _ h2, r.mono sf⟩
  · rcases set_at ej with ⟨rfl, rfl, _⟩ | ⟨n1, ej⟩
    · cases mj
    rcases set_at ek with ⟨rfl, rfl, _⟩ | ⟨n2, ek⟩
    · cases mk
    exact R.apart j k cj ck es fs q ej ek mj mk sj sk
  · obtain ⟨h1, h2⟩ := R.prot a o ea
    exact ⟨h1, by rw [upd_ne (fun z => by rw [z, m.np] at ea; cases ea)]; exact h2⟩
end
end Spk
namespace Spk
open PySem PySem.Spec PyProof.Rows L2
/-! ### what an expression, a statement computes -/
inductive Rs (α : Type) where
  | ok (a : α) (ρ : PEnv) | exc (C f : Str) (d : D) (ρ : PEnv) | bad
namespace Rs
def bind {α β : Type} : Rs α → (α → PEnv → Rs β) → Rs β
  | .ok a ρ, k => k a ρ
  | .exc C f d ρ, _ => .exc C f d ρ
  | .bad, _ => .bad
@[simp] theorem bind_ok {α β : Type} {a : α} {ρ : PEnv} {k : α → PEnv → Rs β} : (Rs.ok a ρ).bind k = k a ρ := rfl
@[simp] theorem bind_exc {α β : Type} {C f : Str} {d : D} {ρ : PEnv} {k : α → PEnv → Rs β} : (Rs.exc C f d ρ : Rs α).bind k = .exc C f d ρ := rfl
@[simp] theorem bind_bad {α β : Type} {k : α → PEnv → Rs β} : (Rs.bad : Rs α).bind k = .bad := rfl
def lift {α : Type} : Option α → PEnv → Rs α
  | some a, ρ => .ok a ρ
  | none, _ => .bad
@[simp] theorem lift_some {α : Type} {a : α} {ρ : PEnv} : lift (some a) ρ = .ok a ρ := rfl
@[simp] theorem lift_none {α : Type} {ρ : PEnv} : lift (none : Option α) ρ = .bad := rfl
end Rs
abbrev EX := PEnv → Rs D
/-- what is handed on: frozen data, or the slot of a list of one's own -/
inductive Arg where
  | val (d : D) | sl (i : Nat)
/-- an operand: an expression, or a name whose slot has a list of one's own -/
inductive Opd where
  | ex (f : EX) | sl (i : Nat)
def Arg.dat (ρ : PEnv) : Arg → Option D
  | .val d => some d
  | .sl i => (ρ[i]?.bind Cell.lst?).map D.lst
def Opd.ev : Opd → PEnv → Rs Arg
  | .ex f, ρ => (f ρ).bind fun d ρ' => .ok (.val d) ρ'
  | .sl i, ρ => match ρ[i]?.bind Cell.mu? with
    | some _ => .ok (.sl i) ρ
    | none => .bad
def evs : List Opd → PEnv → Rs (List Arg)
  | [], ρ => .ok [] ρ
  | o :: os, ρ => (o.ev ρ).bind fun a ρ1 => (evs os ρ1).bind fun as ρ2 => .ok (a :: as) ρ2
def dats (ρ : PEnv) : List Arg → Option (List D)
  | [] => some []
  | a :: as => (a.dat ρ).bind fun d => (dats ρ as).map (d :: ·)
section
variable {G : Gx} {F : Fr} {σ : L2.St} {H Hf H' Hf' : Hp} {ρ ρ' : PEnv}
def ArgOk (G : Gx) (σ : L2.St) (Hf : Hp) (v : V) : Arg → Prop
  | .val d => Rp G Hf v d
  | .sl i => σ[i]? = some (some v)
theorem ArgOk.mono {v : V} {a : Arg} (h : ArgOk G σ Hf v a) (s : Same Hf Hf') : ArgOk G σ Hf' v a := by
  cases a with
  | val d => exact Rp.mono h s
  | sl i => exact h
/-- what is handed on, as one may read it -/
def Rq (G : Gx) (H Hf : Hp) (v : V) (d : D) : Prop := Rp G Hf v d ∨ ∃ p vs ds, v = .ref p ∧ d = .lst ds ∧ H p = some (.lst vs) ∧ RpL G Hf vs ds
theorem Rq.rp {v : V} {d : D} (h : Rq G H Hf v d) (s : Same Hf H) : Rp G H v d := by
  rcases h with h | ⟨p, vs, ds, rfl, rfl, hp, r⟩
  · exact h.mono s
  · exact .lst hp (r.mono s)
theorem Rq.lst {v : V} {ds : List D} (h : Rq G H Hf v (.lst ds)) (s : Same Hf H) : ∃ p vs, v = .ref p ∧ H p = some (.lst vs) ∧ RpL G Hf vs ds := by
  rcases h with h | ⟨p, vs, es, rfl, e, hp, r⟩
  · cases h with | lst q r => exact ⟨_, _, rfl, s _ _ q, r⟩
  · cases e; exact ⟨p, vs, rfl, hp, r⟩
theorem Rq.nl {v : V} {d : D} (h : Rq G H Hf v d) (n : ∀ ds, d ≠ .lst ds) : Rp G Hf v d := by
  rcases h with h | ⟨p, vs, es, rfl, e, hp, r⟩
  · exact h
  · exact absurd e (n es)
theorem ArgOk.rq {v : V} {a : Arg} {d : D} (R : Rep G F σ H Hf ρ) (h : ArgOk G σ Hf v a) (e : a.dat ρ = some d) : Rq G H Hf v d := by
  cases a with
  | val d' => cases e; exact .inl h
  | sl i =>
    cases hc : ρ[i]? with
    | none => simp [Arg.dat, hc] at e
    | some c =>
      cases hl : c.lst? with
      | none => simp [Arg.dat, hc, hl] at e
      | some ds =>
        simp [Arg.dat, hc, hl] at e
        subst e
        obtain ⟨p, m⟩ := (R.cell i c hc).mut (Cell.of_lst hl)
        obtain ⟨o0, hp, r0⟩ := m.ls
        obtain ⟨vs, rfl, r⟩ := r0.lst
        have h : σ[i]? = some (some v) := h
        rw [m.at_] at h
        cases h
        exact .inr ⟨p, vs, ds, rfl, rfl, hp, r⟩
inductive ArgsOk (G : Gx) (σ : L2.St) (Hf : Hp) : List V → List Arg → Prop
  | nil : ArgsOk G σ Hf [] []
  | cons {v : V} {vs : List V} {a : Arg} {as : List Arg} : ArgOk G σ Hf v a → ArgsOk G σ Hf vs as → ArgsOk G σ Hf (v :: vs) (a :: as)
inductive RqL (G : Gx) (H Hf : Hp) : List V → List D → Prop
  | nil : RqL G H Hf [] []
  | cons {v : V} {vs : List V} {d : D} {ds : List D} : Rq G H Hf v d → RqL G H Hf vs ds → RqL G H Hf (v :: vs) (d :: ds)
theorem ArgsOk.rq (R : Rep G F σ H Hf ρ) : ∀ {vs : List V} {as : List Arg} {ds : List D}, ArgsOk G σ Hf vs as → dats ρ as = some ds → RqL G H Hf vs ds
  | _, _, _, .nil, e => by cases e; exact .nil
  | _, _, _, .cons (a := a) (as := as) h t, e => by
    unfold dats at e
    cases h1 : a.dat ρ with
    | none => simp [h1] at e
    | some d =>
      cases h2 : dats ρ as with
      | none => simp [h1, h2] at e
      | some ds =>
        simp [h1, h2] at e
        subst e
        exact .cons (ArgOk.rq R h h1) (ArgsOk.rq R t h2)
/-! ### the judgements -/
/-- behind an expression -/
def PostE {α : Type} (G : Gx) (F : Fr) (W : WX) (σ : L2.St) (Hf : Hp) (Q : α → Hp → Hp → PEnv → Prop) : Rs α → Prop
  | .ok a ρ' => ∀ H' Hf', Rep G F σ H' Hf' ρ' → Same Hf Hf' → Q a H' Hf' ρ'
  | .exc C f d ρ' => ∀ v dd H' Hf', Rep G F σ H' Hf' ρ' → Same Hf Hf' → Rp G Hf' v d → Hf' dd = some (.xd [(f, v)]) → W (.ref (G.cm C)) (some dd) σ H'
  | .bad => False
theorem PostE.mono {α : Type} {W : WX} {Q : α → Hp → Hp → PEnv → Prop} {r : Rs α} (h : PostE G F W σ Hf Q r) (s : Same Hf Hf') : PostE G F W σ Hf' Q r := by
  cases r with
  | ok a ρ' => exact fun H2 Hf2 R t => h H2 Hf2 R (s.trans t)
  | exc C f d ρ' => exact fun v dd H2 Hf2 R t => h v dd H2 Hf2 R (s.trans t)
  | bad => exact h
theorem PostE.imp {α : Type} {W : WX} {Q Q' : α → Hp → Hp → PEnv → Prop} {r : Rs α} (h : PostE G F W σ Hf Q r) (k : ∀ a H' Hf' ρ', r = .ok a ρ' → Rep G F σ H' Hf' ρ' → Same Hf Hf' → Q a H' Hf' ρ' → Q' a H' Hf' ρ') : PostE G F W σ Hf Q' r := by
  cases r with
  | ok a ρ' => exact fun H2 Hf2 R t => k _ _ _ _ rfl R t (h H2 Hf2 R t)
  | exc C f d ρ' => exact h
  | bad => exact h
theorem PostE.bind {α β : Type} {W : WX} {Q : β → Hp → Hp → PEnv → Prop} {r : Rs α} {k : α → PEnv → Rs β} (h : PostE G F W σ Hf Q (r.bind k)) :
    PostE G F W σ Hf (fun a _ Hf' ρ' => PostE G F W σ Hf' Q (k a ρ')) r := by
  cases r with
  | ok a ρ' => exact fun H2 Hf2 R t => PostE.mono h t
  | exc C f d ρ' => exact h
  | bad => exact h
end
/-- an operand -/
def DO (G : Gx) (X : Cx) (W : WX) (e : Expr) (o : Opd) : Prop := ∃ t, PE X e t ∧ ∀ (F : Fr) (σ : L2.St) (H Hf : Hp) (ρ : PEnv) (Q : VK), Rep G F σ H Hf ρ →
  PostE G F W σ Hf (fun a H' Hf' _ => ∀ v, ArgOk G σ Hf' v a → Q v H') (o.ev ρ) → t σ H Q
abbrev DE (G : Gx) (X : Cx) (W : WX) (e : Expr) (f : EX) : Prop := DO G X W e (.ex f)
/-- a list of operands -/
def DA (G : Gx) (X : Cx) (W : WX) (es : List Expr) (os : List Opd) : Prop := ∃ t, PA X es t ∧ ∀ (F : Fr) (σ : L2.St) (H Hf : Hp) (ρ : PEnv) (Q : List V → Hp → Prop), Rep G F σ H Hf ρ →
  PostE G F W σ Hf (fun as H' Hf' _ => ∀ vs, ArgsOk G σ Hf' vs as → Q vs H') (evs os ρ) → t σ H Q
section
variable {G : Gx} {X : Cx} {W : WX} {e : Expr} {es : List Expr} {o : Opd} {os : List Opd} {f : EX}
theorem DE.intro (h : ∃ t, PE X e t ∧ ∀ (F : Fr) (σ : L2.St) (H Hf : Hp) (ρ : PEnv) (Q : VK), Rep G F σ H Hf ρ →
    PostE G F W σ Hf (fun d H' Hf' _ => ∀ v, Rp G Hf' v d → Q v H') (f ρ) → t σ H Q) : DE G X W e f := by
  obtain ⟨t, h1, h2⟩ := h
  refine ⟨t, h1, fun F σ H Hf ρ Q R p => h2 F σ H Hf ρ Q R ?_⟩
  exact (PostE.bind p).imp fun a H' Hf' ρ' _ R' s q v r => q H' Hf' R' (Same.refl _) v r
theorem DE.elim (h : DE G X W e f) : ∃ t, PE X e t ∧ ∀ (F : Fr) (σ : L2.St) (H Hf : Hp) (ρ : PEnv) (Q : VK), Rep G F σ H Hf ρ →
    PostE G F W σ Hf (fun d H' Hf' _ => ∀ v, Rp G Hf' v d → Q v H') (f ρ) → t σ H Q := by
  obtain ⟨t, h1, h2⟩ := h
  refine ⟨t, h1, fun F σ H Hf ρ Q R p => h2 F σ H Hf ρ Q R ?_⟩
  show PostE G F W σ Hf _ ((f ρ).bind _)
  cases hf : f ρ with
  | ok d ρ' => rw [hf] at p; exact fun H' Hf' R' s v r => p H' Hf' R' s v r
  | exc C f' d ρ' => rw [hf] at p; exact p
  | bad => rw [hf] at p; exact p
theorem da_nil : DA G X W [] [] := ⟨_, pa_nil, fun F σ H Hf ρ Q R p => p H Hf R (Same.refl _) [] .nil⟩
theorem da_cons (h : DO G X W e o) (t : DA G X W es os) (hs : starEach (e :: es) X.env = (false, eval e X.env) :: starEach es X.env := by rfl) : DA G X W (e :: es) (o :: os) := by
  obtain ⟨t1, p1, q1⟩ := h
  obtain ⟨t2, p2, q2⟩ := t
  refine ⟨_, pa_cons p1 p2 hs, fun F σ H Hf ρ Q R p => ?_⟩
  refine q1 F σ H Hf ρ _ R ((PostE.bind p).imp fun a H1 Hf1 ρ1 _ R1 s1 p v r => ?_)
  refine q2 F σ H1 Hf1 ρ1 _ R1 ((PostE.bind p).imp fun as H2 Hf2 ρ2 _ R2 s2 p vs rs => ?_)
  exact p H2 Hf2 R2 (Same.refl _) (v :: vs) (.cons (r.mono s2) rs)
/-! ### names, constants -/
def eVar (i : Nat) : EX := fun ρ => match ρ[i]? with
  | some (.val d) => .ok d ρ
  | _ => .bad
theorem de_var {i : Nat} {x : Str} {pos : Pos} (hN : X.N[i]? = some x := by rfl) (hv : Vis X.env.scope x := by first | exact .inl rfl | exact .inr (.inl rfl) | exact .inr (.inr rfl)) (hd : (x == ("__debug__" : Str)) = false := by decide) (hcd : (x == ("__classdict__" : Str)) = false := by decide) : DE G X W (.Name x pos) (eVar i) := by
  refine DE.intro ⟨_, pe_var (i := i) hN hv hd hcd, fun F σ H Hf ρ Q R p => ?_⟩
  unfold eVar at p
  split at p
  · rename_i d hc
    obtain ⟨v, hv, r⟩ := R.cell i _ hc
    exact ⟨v, hv, p H Hf R (Same.refl _) v r⟩
  · exact p.elim
theorem do_sl {i : Nat} {x : Str} {pos : Pos} (hN : X.N[i]? = some x := by rfl) (hv : Vis X.env.scope x := by first | exact .inl rfl | exact .inr (.inl rfl) | exact .inr (.inr rfl)) (hd : (x == ("__debug__" : Str)) = false := by decide) (hcd : (x == ("__classdict__" : Str)) = false := by decide) : DO G X W (.Name x pos) (.sl i) := by
  refine ⟨_, pe_var (i := i) hN hv hd hcd, fun F σ H Hf ρ Q R p => ?_⟩
  unfold Opd.ev at p
  dsimp only at p
  split at p
  · rename_i ds hc
    obtain ⟨c, hc1, hc2⟩ := Option.bind_eq_some_iff.mp hc
    obtain ⟨a, m⟩ := (R.cell i c hc1).mut hc2
    exact ⟨.ref a, m.at_, p H Hf R (Same.refl _) (.ref a) m.at_⟩
  · exact p.elim
def eC (d : D) : EX := fun ρ => .ok d ρ
theorem de_of (t : TE) (v : V) (d : D) (p : PE X e (tC v)) (r : ∀ Hf, Rp G Hf v d) : DE G X W e (eC d) :=
  DE.intro ⟨_, p, fun F σ H Hf ρ Q R p => p H Hf R (Same.refl _) v (r Hf)⟩
end
end Spk
namespace Spk
open PySem PySem.Spec PyProof.Rows L2
/-! ### operators -/
def OpD (G : Gx) (X : Cx) (f : Value → Value → Sem Value) (op : D → D → Option D) : Prop := ∃ r, OpR X f r ∧ ∀ (F : Fr) (σ : L2.St) (H Hf : Hp) (ρ : PEnv) (v w : V) (x y d : D) (Q : VK), Rep G F σ H Hf ρ →
  Rq G H Hf v x → Rq G H Hf w y → op x y = some d → (∀ u H' Hf', Rep G F σ H' Hf' ρ → Same Hf Hf' → Rp G Hf' u d → Q u H') → r v w H Q
def CallD (G : Gx) (X : Cx) (f : Value) (op : List D → Option D) : Prop := ∃ r, CallR X f r ∧ ∀ (F : Fr) (σ : L2.St) (H Hf : Hp) (ρ : PEnv) (vs : List V) (ds : List D) (d : D) (Q : VK), Rep G F σ H Hf ρ →
  RqL G H Hf vs ds → op ds = some d → (∀ u H' Hf', Rep G F σ H' Hf' ρ → Same Hf Hf' → Rp G Hf' u d → Q u H') → r vs H Q
def op2 (op : D → D → Option D) : List D → Option D
  | [x, y] => op x y
  | _ => none
def op1 (op : D → Option D) : List D → Option D
  | [x] => op x
  | _ => none
/-- the operands evaluated from the left, then the operation -/
def eOp (op : List D → Option D) (os : List Opd) : EX := fun ρ => (evs os ρ).bind fun as ρ1 => Rs.lift ((dats ρ1 as).bind op) ρ1
section
variable {G : Gx} {X : Cx} {W : WX} {e a b : Expr} {es : List Expr} {o o1 o2 : Opd} {os : List Opd} {f : EX} {pos p : Pos}
theorem lift_post {α : Type} {F : Fr} {σ : L2.St} {H Hf : Hp} {ρ : PEnv} {Q : α → Hp → Hp → PEnv → Prop} {r : Option α} (h : PostE G F W σ Hf Q (Rs.lift r ρ)) : ∃ a, r = some a ∧ ∀ H' Hf', Rep G F σ H' Hf' ρ → Same Hf Hf' → Q a H' Hf' ρ := by
  cases r with
  | none => exact h.elim
  | some a => exact ⟨a, rfl, h⟩
theorem de_op2 {f : Value → Value → Sem Value} {op : D → D → Option D} (k : OpD G X f op) (ha : DO G X W a o1) (hb : DO G X W b o2) {ex : Expr} (mk : ∀ {r : R2} {ta tb : TE}, OpR X f r → PE X a ta → PE X b tb → PE X ex (tOp r ta tb)) : DE G X W ex (eOp (op2 op) [o1, o2]) := by
  obtain ⟨r, hr, kr⟩ := k
  obtain ⟨t1, p1, q1⟩ := ha
  obtain ⟨t2, p2, q2⟩ := hb
  refine DE.intro ⟨_, mk hr p1 p2, fun F σ H Hf ρ Q R p => ?_⟩
  refine q1 F σ H Hf ρ _ R ((PostE.bind (PostE.bind p)).imp fun a1 H1 Hf1 ρ1 _ R1 s1 p v1 r1 => ?_)
  refine q2 F σ H1 Hf1 ρ1 _ R1 ((PostE.bind (PostE.bind p)).imp fun a2 H2 Hf2 ρ2 _ R2 s2 p v2 r2 => ?_)
  have p := p H2 Hf2 R2 (Same.refl _) H2 Hf2 R2 (Same.refl _)
  obtain ⟨d, hd, q⟩ := lift_post (H := H2) p
  obtain ⟨ds, h1, h2⟩ := Option.bind_eq_some_iff.mp hd
  have as : ArgsOk G σ Hf2 [v1, v2] [a1, a2] := .cons (r1.mono s2) (.cons r2 .nil)
  cases as.rq R2 h1 with
  | cons x1 t =>
    cases t with
    | cons x2 t =>
      cases t
      exact kr F σ H2 Hf2 ρ2 v1 v2 _ _ d Q R2 x1 x2 h2 fun u H' Hf' R' s' r' => q H' Hf' R' s' u r'
theorem de_bin {op : Operator} {g : D → D → Option D} (k : OpD G X (binaryOp op) g) (ha : DO G X W a o1) (hb : DO G X W b o2) : DE G X W (.BinOp a op b pos) (eOp (op2 g) [o1, o2]) := de_op2 k ha hb fun hr p1 p2 => pe_op hr p1 p2
theorem de_cmp {op : CmpOp} {g : D → D → Option D} (k : OpD G X (compareOp op) g) (ha : DO G X W a o1) (hb : DO G X W b o2) (hm : behindInMarks op b = false) : DE G X W (.Compare a [op] [b] pos) (eOp (op2 g) [o1, o2]) := de_op2 k ha hb fun hr p1 p2 => pe_cmpR hr p1 p2 hm
theorem de_calls {g : List D → Option D} {fv : Value} (k : CallD G X fv g) (ha : DA G X W es os) {ex : Expr} (mk : ∀ {r : List V → Hp → VK → Prop} {t : TA}, CallR X fv r → PA X es t → PE X ex (tCB r t)) : DE G X W ex (eOp g os) := by
  obtain ⟨r, hr, kr⟩ := k
  obtain ⟨t1, p1, q1⟩ := ha
  refine DE.intro ⟨_, mk hr p1, fun F σ H Hf ρ Q R p => ?_⟩
  refine q1 F σ H Hf ρ _ R ((PostE.bind p).imp fun as H1 Hf1 ρ1 _ R1 s1 p vs rs => ?_)
  obtain ⟨d, hd, q⟩ := lift_post (H := H1) p
  obtain ⟨ds, h1, h2⟩ := Option.bind_eq_some_iff.mp hd
  exact kr F σ H1 Hf1 ρ1 vs ds d Q R1 (rs.rq R1 h1) h2 fun u H' Hf' R' s' r' => q H' Hf' R' s' u r'
theorem de_callB {g : List D → Option D} {id : String} {x : Str} (k : CallD G X (.builtin id) g) (hg : Gl X x) (hm : X.mg x = none) (hv : bootBuiltins x = some (.builtin id)) (ha : DA G X W (e :: es) os) (hn : x ≠ "__name__" := by decide) (hdb : (x == ("__debug__" : Str)) = false := by decide)
    (he : starEach (e :: es) X.env = (false, eval e X.env) :: starEach es X.env := by rfl) (hpl : (backTo pos (starEach es X.env)).any (·.1) = false := by rfl) : DE G X W (.Call (.Name x p) (e :: es) [] pos) (eOp g os) :=
  de_calls k ha fun hr pa => pe_callB hr hg hm hv pa hn hdb he hpl
theorem de_callTy {g : List D → Option D} {T : String} {x : Str} (k : CallD G X (.type T) g) (hg : Gl X x) (hm : X.mg x = none) (hv : bootBuiltins x = some (.type T)) (ha : DA G X W (e :: es) os) (hn : x ≠ "__name__" := by decide) (hdb : (x == ("__debug__" : Str)) = false := by decide)
    (he : starEach (e :: es) X.env = (false, eval e X.env) :: starEach es X.env := by rfl) (hpl : (backTo pos (starEach es X.env)).any (·.1) = false := by rfl) : DE G X W (.Call (.Name x p) (e :: es) [] pos) (eOp g os) :=
  de_calls k ha fun hr pa => pe_callTy hr hg hm hv pa hn hdb he hpl
end
end Spk
namespace Spk
open PySem PySem.Spec PyProof.Rows L2
/-! ### data as the library compares and shows it -/
mutual
def D.py : D → PyData
  | .non => .none
  | .bl b => .bool b
  | .int i => .int i
  | .str x => .str x
  | .lst ds => .list (pys ds)
  | .tup ds => .tuple (pys ds)
  | .ins _ _ _ => .none
  | .scr _ => .none
def pys : List D → List PyData
  | [] => []
  | d :: ds => d.py :: pys ds
end
mutual
/-- no instance within -/
def D.pure : D → Bool
  | .lst ds => pures ds
  | .tup ds => pures ds
  | .ins _ _ _ => false
  | .scr _ => false
  | _ => true
def pures : List D → Bool
  | [] => true
  | d :: ds => d.pure && pures ds
end
theorem pys_map : ∀ ds : List D, pys ds = ds.map D.py
  | [] => rfl
  | d :: ds => congrArg (d.py :: ·) (pys_map ds)
section
variable {G : Gx} {H : Hp}
mutual
theorem Rp.dp : ∀ (d : D) {v : V}, Rp G H v d → d.pure = true → Dp G.K H v d.py
  | .non, _, h, _ => by cases h; exact .non
  | .bl b, _, h, _ => by cases h; exact .bl b
  | .int i, _, h, _ => by cases h; exact .int i
  | .str x, _, h, _ => by cases h; exact .str x
  | .lst ds, _, h, c => by cases h with | lst q r => exact .lst (SqL.hp q) (RpL.dp ds r c)
  | .tup ds, _, h, c => by cases h with | tup q r => exact .tup q (RpL.dp ds r c)
  | .ins _ _ _, _, _, c => by cases c
  | .scr _, _, _, c => by cases c
theorem RpL.dp : ∀ (ds : List D) {vs : List V}, RpL G H vs ds → pures ds = true → DpAll G.K H vs (pys ds)
  | [], _, h, _ => by cases h; exact .nil
  | d :: ds, _, h, c => by
    have c := Bool.and_eq_true_iff.mp c
    cases h with | cons a b => exact .cons (Rp.dp d a c.1) (RpL.dp ds b c.2)
end
mutual
theorem Rp.can : ∀ (d : D) {v : V}, Rp G H v d → d.pure = true → d.py.canLay0 = true
  | .non, _, h, _ => by simp only [D.py, PyData.canLay0]
  | .bl b, _, h, _ => by simp only [D.py, PyData.canLay0]
  | .int i, _, h, _ => by simp only [D.py, PyData.canLay0]
  | .str x, _, h, _ => by cases h with | str h => exact h
  | .lst ds, _, h, c => by cases h with | lst q r => simp only [D.py, PyData.canLay0]; exact RpL.can ds r c
  | .tup ds, _, h, c => by cases h with | tup q r => simp only [D.py, PyData.canLay0]; exact RpL.can ds r c
  | .ins _ _ _, _, _, c => by cases c
  | .scr _, _, _, c => by cases c
theorem RpL.can : ∀ (ds : List D) {vs : List V}, RpL G H vs ds → pures ds = true → PyData.canLayAll0 (pys ds) = true
  | [], _, h, _ => by simp only [pys, PyData.canLayAll0]
  | d :: ds, _, h, c => by
    have c := Bool.and_eq_true_iff.mp c
    cases h with | cons a b => simp only [pys, PyData.canLayAll0, Rp.can d a c.1, RpL.can ds b c.2, Bool.and_self]
end
end
/-- data that may be compared: no instance within, not too deep -/
def D.fit (d : D) : Bool := d.pure && decide (d.py.depth ≤ 64)
theorem Rp.shp {G : Gx} {H : Hp} {v : V} {d : D} (r : Rp G H v d) (h : d.fit = true) : Dp G.K H v d.py ∧ SeqAt.shaped d.py = true := by
  have h := Bool.and_eq_true_iff.mp h
  exact ⟨Rp.dp d r h.1, Bool.and_eq_true_iff.mpr ⟨Rp.can d r h.1, h.2⟩⟩
def eqv (x y : D) : Bool := PyData.eqv x.py y.py
/-! ### operators -/
theorem opr_or {X : Cx} {f : Value → Value → Sem Value} {r1 r2 : R2} (h1 : OpR X f r1) (h2 : OpR X f r2) : OpR X f (fun x y H Q => r1 x y H Q ∨ r2 x y H Q) := by
  intro pins s σ H x y v u Q I rx ry h
  rcases h with h | h
  · exact h1 pins s σ H x y v u Q I rx ry h
  · exact h2 pins s σ H x y v u Q I rx ry h
section
variable {G : Gx} {X : Cx}
def addD : D → D → Option D
  | .int i, .int j => some (.int (i + j))
  | .lst xs, .lst ys => if xs.length + ys.length ≤ sizeLine then some (.lst (xs ++ ys)) else none
  | .tup xs, .tup ys => if xs.length + ys.length ≤ sizeLine then some (.tup (xs ++ ys)) else none
  | .str x, .str y => if x.length + y.length ≤ sizeLine ∧ PyData.canLay0 (.str (x ++ y)) = true then some (.str (x ++ y)) else none
  | _, _ => none
theorem ite_some' {α : Type} {c : Prop} [Decidable c] {x d : α} (h : (if c then some x else none) = some d) : c ∧ x = d := by
  by_cases e : c
  · rw [if_pos e] at h; exact ⟨e, Option.some.inj h⟩
  · rw [if_neg e] at h; cases h
theorem rp_i {H : Hp} {v : V} {i : Int} (h : Rp G H v (.int i)) : v = .int i := by cases h; rfl
theorem rp_b {H : Hp} {v : V} {b : Bool} (h : Rp G H v (.bl b)) : v = .bl b := by cases h; rfl
theorem rp_s {H : Hp} {v : V} {x : Str} (h : Rp G H v (.str x)) : v = .str x ∧ PyData.canLay0 (.str x) = true := by cases h with | str h => exact ⟨rfl, h⟩
theorem rp_n {H : Hp} {v : V} (h : Rp G H v .non) : v = .non := by cases h; rfl
theorem rp_t {H : Hp} {v : V} {ds : List D} (h : Rp G H v (.tup ds)) : ∃ a vs, v = .ref a ∧ SqT G.K H a vs ∧ RpL G H vs ds := by cases h with | tup q r => exact ⟨_, _, rfl, q, r⟩
theorem Rq.i {H Hf : Hp} {v : V} {i : Int} (h : Rq G H Hf v (.int i)) : v = .int i := rp_i (h.nl fun _ z => nomatch z)
theorem Rq.b {H Hf : Hp} {v : V} {b : Bool} (h : Rq G H Hf v (.bl b)) : v = .bl b := rp_b (h.nl fun _ z => nomatch z)
theorem Rq.n {H Hf : Hp} {v : V} (h : Rq G H Hf v .non) : v = .non := rp_n (h.nl fun _ z => nomatch z)
theorem Rq.s {H Hf : Hp} {v : V} {x : Str} (h : Rq G H Hf v (.str x)) : v = .str x ∧ PyData.canLay0 (.str x) = true := rp_s (h.nl fun _ z => nomatch z)
theorem Rq.t {H Hf : Hp} {v : V} {ds : List D} (h : Rq G H Hf v (.tup ds)) (s : Same Hf H) : ∃ a vs, v = .ref a ∧ SqT G.K H a vs ∧ RpL G Hf vs ds := by
  obtain ⟨a, vs, e, q, r⟩ := rp_t (h.nl fun _ z => nomatch z)
  exact ⟨a, vs, e, sameT s q, r⟩
theorem Rep.laid {F : Fr} {σ : L2.St} {H Hf : Hp} {ρ : PEnv} (R : Rep G F σ H Hf ρ) {q : Addr} (nq : H q = none) {vs : List V} {ds : List D} (r : RpL G Hf vs ds) :
    Rep G F σ (upd H q (.lst vs)) (upd Hf q (.lst vs)) ρ ∧ Same Hf (upd Hf q (.lst vs)) ∧ Rp G (upd Hf q (.lst vs)) (.ref q) (.lst ds) :=
  ⟨R.new nq _, Same.new (R.nf nq), .lst upd_same (r.mono (Same.new (R.nf nq)))⟩
theorem Rep.laidT {F : Fr} {σ : L2.St} {H Hf : Hp} {ρ : PEnv} (R : Rep G F σ H Hf ρ) {q : Addr} (nq : H q = none) {vs : List V} {ds : List D} (r : RpL G Hf vs ds) :
    Rep G F σ (upd H q (.tup vs)) (upd Hf q (.tup vs)) ρ ∧ Same Hf (upd Hf q (.tup vs)) ∧ Rp G (upd Hf q (.tup vs)) (.ref q) (.tup ds) :=
  ⟨R.new nq _, Same.new (R.nf nq), .tup (SqT.hp upd_same) (r.mono (Same.new (R.nf nq)))⟩
theorem od_add (hK : X.K = G.K := by rfl) : OpD G X (binaryOp .Add) addD := by
  refine ⟨_, opr_or op_add (opr_or op_cat (opr_or (hK ▸ op_catA) op_add_str)), fun F σ H Hf ρ v w x y d Q R rx ry e q => ?_⟩
  cases x <;> cases y <;> simp only [addD] at e <;> try cases e
  · obtain rfl := rx.i
    obtain rfl := ry.i
    exact .inl ⟨_, _, rfl, rfl, q _ H Hf R (Same.refl _) (.int _)⟩
  · obtain ⟨c, rfl⟩ := ite_some' e
    obtain ⟨rfl, _⟩ := rx.s
    obtain ⟨rfl, _⟩ := ry.s
    exact .inr (.inr (.inr ⟨_, _, rfl, rfl, c.1, q _ H Hf R (Same.refl _) (.str c.2)⟩))
  · obtain ⟨c, rfl⟩ := ite_some' e
    obtain ⟨a, vs, rfl, ha, ra⟩ := rx.lst R.sub
    obtain ⟨b, ws, rfl, hb, rb⟩ := ry.lst R.sub
    refine .inr (.inl ⟨_, _, _, _, rfl, rfl, ha, hb, by rw [ra.len, rb.len]; exact c, fun p np => ?_⟩)
    obtain ⟨R', s', r'⟩ := R.laid np (ra.app rb)
    exact q _ _ _ R' s' r'
  · obtain ⟨c, rfl⟩ := ite_some' e
    obtain ⟨a, vs, rfl, ha, ra⟩ := rx.t R.sub
    obtain ⟨b, ws, rfl, hb, rb⟩ := ry.t R.sub
    obtain ⟨a0, vs0, ea, qa, _⟩ := rp_t (rx.nl fun _ z => nomatch z)
    cases ea
    obtain ⟨b0, ws0, eb, qb, _⟩ := rp_t (ry.nl fun _ z => nomatch z)
    cases eb
    refine .inr (.inr (.inl ⟨_, _, _, _, rfl, rfl, ha, hb, by rw [ra.len, rb.len]; exact c, fun z => ?_, fun _ z => ?_, fun _ _ p np => ?_⟩))
    · subst z
      cases ra
      exact q _ H Hf R (Same.refl _) (ry.nl fun _ z => nomatch z)
    · subst z
      cases rb
      rw [List.append_nil] at q
      exact q _ H Hf R (Same.refl _) (rx.nl fun _ z => nomatch z)
    · obtain ⟨R', s', r'⟩ := R.laidT np (ra.app rb)
      exact q _ _ _ R' s' r'
def intOp (g : Int → Int → Option Int) : D → D → Option D
  | .int i, .int j => (g i j).map D.int
  | _, _ => none
theorem od_int {f : Value → Value → Sem Value} {C : Int → Int → Prop} {k : Int → Int → Int} {g : Int → Int → Option Int} (h : OpR X f (rI C fun i j => .int (k i j))) (hg : ∀ i j n, g i j = some n → C i j ∧ k i j = n) : OpD G X f (intOp g) := by
  refine ⟨_, h, fun F σ H Hf ρ v w x y d Q R rx ry e q => ?_⟩
  cases x <;> cases y <;> simp only [intOp] at e <;> try cases e
  rename_i i j
  obtain ⟨n, h1, rfl⟩ := Option.map_eq_some_iff.mp e
  obtain ⟨c, rfl⟩ := hg _ _ _ h1
  obtain rfl := rx.i
  obtain rfl := ry.i
  exact ⟨_, _, rfl, rfl, c, q _ H Hf R (Same.refl _) (.int _)⟩
def subD : D → D → Option D := intOp fun i j => some (i - j)
def mulG (i j : Int) : Option Int := if i.natAbs.log2 + j.natAbs.log2 < 1000000 then some (i * j) else none
def mulD : D → D → Option D := intOp mulG
theorem od_mul : OpD G X (binaryOp .Mult) mulD := od_int op_mulW fun i j n h => by unfold mulG at h; obtain ⟨c, e⟩ := ite_some' h; exact ⟨c, e⟩
def divG (i j : Int) : Option Int := if 0 < j ∧ j.natAbs.log2 < 9000 then some (i / j) else none
def divD : D → D → Option D := intOp divG
theorem od_div : OpD G X (binaryOp .FloorDiv) divD := od_int op_fdivW fun i j n h => by unfold divG at h; obtain ⟨c, e⟩ := ite_some' h; exact ⟨c, e⟩
def modG (i j : Int) : Option Int := if 0 < j then some (i % j) else none
def modD : D → D → Option D := intOp modG
theorem od_mod : OpD G X (binaryOp .Mod) modD := od_int op_mod fun i j n h => by unfold modG at h; obtain ⟨c, e⟩ := ite_some' h; exact ⟨c, e⟩
def powG (i j : Int) : Option Int := if 0 ≤ j ∧ j ≤ 1000000 ∧ i.natAbs < 2 ^ 64 then some (i ^ j.toNat) else none
def powD : D → D → Option D := intOp powG
theorem od_pow : OpD G X (binaryOp .Pow) powD := od_int op_pow fun i j n h => by unfold powG at h; obtain ⟨c, e⟩ := ite_some' h; exact ⟨c, e⟩
def intCmp (g : Int → Int → Bool) : D → D → Option D
  | .int i, .int j => some (.bl (g i j))
  | _, _ => none
theorem od_icmp {f : Value → Value → Sem Value} {k : Int → Int → Bool} (h : OpR X f (rI0 fun i j => .bl (k i j))) : OpD G X f (intCmp k) := by
  refine ⟨_, h, fun F σ H Hf ρ v w x y d Q R rx ry e q => ?_⟩
  cases x <;> cases y <;> simp only [intCmp] at e <;> cases e
  obtain rfl := rx.i
  obtain rfl := ry.i
  exact ⟨_, _, rfl, rfl, q _ H Hf R (Same.refl _) (.bl _)⟩
def ltD : D → D → Option D := intCmp fun i j => decide (i < j)
def leD : D → D → Option D := intCmp fun i j => decide (i ≤ j)
def gtD : D → D → Option D := intCmp fun i j => decide (j < i)
def geD : D → D → Option D := intCmp fun i j => decide (j ≤ i)
theorem od_lt : OpD G X (compareOp .Lt) ltD := od_icmp op_lt
theorem od_gt : OpD G X (compareOp .Gt) gtD := od_icmp op_gt
theorem od_ge : OpD G X (compareOp .GtE) geD := od_icmp op_ge
def eqD (x y : D) : Option D := if x.fit = true ∧ y.fit = true then some (.bl (eqv x y)) else none
def neD (x y : D) : Option D := if x.fit = true ∧ y.fit = true then some (.bl (!eqv x y)) else none
theorem od_eq (hu : X.A.units + 64 < cLine) (hK : X.K = G.K := by rfl) : OpD G X (compareOp .Eq) eqD := by
  refine ⟨_, (hK ▸ op_eqD hu : OpR X (compareOp .Eq) (rEqD G.K)), fun F σ H Hf ρ v w x y d Q R rx ry e q => ?_⟩
  obtain ⟨⟨c1, c2⟩, rfl⟩ := ite_some' e
  obtain ⟨a1, a2⟩ := (rx.rp R.sub).shp c1
  obtain ⟨b1, b2⟩ := (ry.rp R.sub).shp c2
  exact ⟨_, _, a1, b1, a2, b2, q _ H Hf R (Same.refl _) (.bl _)⟩
theorem od_ne (hu : X.A.units + 64 < cLine) (hK : X.K = G.K := by rfl) : OpD G X (compareOp .NotEq) neD := by
  refine ⟨_, (hK ▸ op_neD hu : OpR X (compareOp .NotEq) (rNeD G.K)), fun F σ H Hf ρ v w x y d Q R rx ry e q => ?_⟩
  obtain ⟨⟨c1, c2⟩, rfl⟩ := ite_some' e
  obtain ⟨a1, a2⟩ := (rx.rp R.sub).shp c1
  obtain ⟨b1, b2⟩ := (ry.rp R.sub).shp c2
  exact ⟨_, _, a1, b1, a2, b2, q _ H Hf R (Same.refl _) (.bl _)⟩
/-- x in a list or a tuple of data -/
def inG (n : Bool) (x y : D) : Option D := match y with
  | .lst ds => if x.fit = true ∧ (D.lst ds).fit = true then some (.bl (n != ds.any fun z => eqv z x)) else none
  | .tup ds => if x.fit = true ∧ (D.tup ds).fit = true then some (.bl (n != ds.any fun z => eqv z x)) else none
  | _ => none
abbrev inD := inG false
abbrev notInD := inG true
theorem any_pys (ds : List D) (x : D) : (pys ds).any (fun z => PyData.eqv z x.py) = ds.any fun z => eqv z x := by
  rw [pys_map, List.any_map]; rfl
def rInT (K : PySem.W.Frag) : R2 := fun x y H Q => ∃ d ds, Dp K H x d ∧ Dp K H y (.tuple ds) ∧ SeqAt.shaped d = true ∧ PyData.canLayAll0 ds = true ∧ Q (.bl (ds.any fun z => PyData.eqv z d)) H
theorem op_inT (hu : X.A.units + 65 < cLine) : OpR X (compareOp .In) (rInT X.K) := by
  intro pins s σ H x y v u Q I rx ry h
  obtain ⟨d, ds, hd, he, sd, se, q⟩ := h
  obtain ⟨as, r1⟩ := Dp.reads I d x v hd rx
  obtain ⟨bs, r2⟩ := Dp.reads I (.tuple ds) y u he ry
  exact SeqAt.in_tuple_reads r2 r1 se (SeqAt.canLay_of_shaped sd) (room_in_shaped sd hu) ⟨.bl _, H, I, rfl, q⟩
theorem od_in (hu : X.A.units + 65 < cLine) (hK : X.K = G.K := by rfl) : OpD G X (compareOp .In) inD := by
  refine ⟨_, opr_or (hK ▸ op_inD hu : OpR X (compareOp .In) (rInD G.K)) (hK ▸ op_inT hu : OpR X (compareOp .In) (rInT G.K)), fun F σ H Hf ρ v w x y d Q R rx ry e q => ?_⟩
  cases y <;> simp only [inD, inG] at e <;> try cases e
  · obtain ⟨⟨c1, c2⟩, rfl⟩ := ite_some' e
    obtain ⟨a1, a2⟩ := (rx.rp R.sub).shp c1
    obtain ⟨b1, b2⟩ := (ry.rp R.sub).shp c2
    refine .inl ⟨_, _, a1, b1, a2, b2, ?_⟩
    have := q _ H Hf R (Same.refl _) (.bl _)
    rw [← any_pys] at this
    simpa using this
  · obtain ⟨⟨c1, c2⟩, rfl⟩ := ite_some' e
    obtain ⟨a1, a2⟩ := (rx.rp R.sub).shp c1
    obtain ⟨b1, b2⟩ := (ry.rp R.sub).shp c2
    have c3 := SeqAt.canLay_of_shaped b2
    refine .inr ⟨_, _, a1, b1, a2, (by simpa only [D.py, PyData.canLay0] using c3), ?_⟩
    have := q _ H Hf R (Same.refl _) (.bl _)
    rw [← any_pys] at this
    simpa using this
theorem od_notIn (hu : X.A.units + 65 < cLine) (hK : X.K = G.K := by rfl) : OpD G X (compareOp .NotIn) notInD := by
  refine ⟨_, opr_or (hK ▸ op_notInD hu : OpR X (compareOp .NotIn) (rNotInD G.K)) (hK ▸ op_notInT hu : OpR X (compareOp .NotIn) (rNotInT G.K)), fun F σ H Hf ρ v w x y d Q R rx ry e q => ?_⟩
  cases y <;> simp only [notInD, inG] at e <;> try cases e
  · obtain ⟨⟨c1, c2⟩, rfl⟩ := ite_some' e
    obtain ⟨a1, a2⟩ := (rx.rp R.sub).shp c1
    obtain ⟨b1, b2⟩ := (ry.rp R.sub).shp c2
    refine .inl ⟨_, _, a1, b1, a2, b2, ?_⟩
    have := q _ H Hf R (Same.refl _) (.bl _)
    rw [← any_pys] at this
    simpa using this
  · obtain ⟨⟨c1, c2⟩, rfl⟩ := ite_some' e
    obtain ⟨a1, a2⟩ := (rx.rp R.sub).shp c1
    obtain ⟨b1, b2⟩ := (ry.rp R.sub).shp c2
    have c3 := SeqAt.canLay_of_shaped b2
    refine .inr ⟨_, _, a1, b1, a2, (by simpa only [D.py, PyData.canLay0] using c3), ?_⟩
    have := q _ H Hf R (Same.refl _) (.bl _)
    rw [← any_pys] at this
    simpa using this
/-- x is None -/
def isNonD (n : Bool) (x y : D) : Option D := match x, y with
  | .non, .non => some (.bl (!n))
  | _, .non => some (.bl n)
  | _, _ => none
def negD : D → Option D
  | .int i => some (.int (-i))
  | _ => none
/-! ### truth -/
def truth : D → Option Bool
  | .non => some false
  | .bl b => some b
  | .int i => some (i != 0)
  | .str x => if x.length ≤ sizeLine then some ((x.length : Int) != 0) else none
  | .lst ds => some (!ds.isEmpty)
  | .tup ds => some (!ds.isEmpty)
  | _ => none
theorem empty_rp {H : Hp} {vs : List V} {ds : List D} (r : RpL G H vs ds) : (!vs.isEmpty) = !ds.isEmpty := by cases r <;> rfl
theorem tru_of (hK : X.K = G.K) {H Hf : Hp} {v : V} {d : D} {b : Bool} (s : Same Hf H) (r : Rq G H Hf v d) (e : truth d = some b) : TruV X.K v H b := by
  rw [hK]
  cases d <;> simp only [truth] at e <;> try cases e
  · obtain rfl := r.n; rfl
  · obtain rfl := r.b; rfl
  · obtain rfl := r.i; rfl
  · obtain ⟨c, rfl⟩ := ite_some' e
    obtain ⟨rfl, _⟩ := r.s
    exact ⟨c, rfl⟩
  · obtain ⟨p, vs, rfl, hp, rl⟩ := r.lst s
    exact .inl ⟨vs, SqL.hp hp, (empty_rp rl).symm⟩
  · obtain ⟨p, vs, rfl, hp, rl⟩ := r.t s
    exact .inr (.inl ⟨vs, hp, (empty_rp rl).symm⟩)
abbrev BX := PEnv → Rs Bool
def DT (G : Gx) (X : Cx) (W : WX) (e : Expr) (f : BX) : Prop := ∃ t, PT X e t ∧ ∀ (F : Fr) (σ : L2.St) (H Hf : Hp) (ρ : PEnv) (Q : Bool → Hp → Prop), Rep G F σ H Hf ρ →
  PostE G F W σ Hf (fun b H' _ _ => Q b H') (f ρ) → t σ H Q
def DW (G : Gx) (X : Cx) (W : WX) (e : Expr) (f : BX) : Prop := ∃ t, PW X e t ∧ ∀ (F : Fr) (σ : L2.St) (H Hf : Hp) (ρ : PEnv) (Q : Bool → Hp → Prop), Rep G F σ H Hf ρ →
  PostE G F W σ Hf (fun b H' _ _ => Q b H') (f ρ) → t σ H Q
theorem DW.pt {W : WX} {e : Expr} {f : BX} (h : DW G X W e f) : DT G X W e f := by
  obtain ⟨t, p, q⟩ := h
  exact ⟨t, p.pt, q⟩
def bTru (o : Opd) : BX := fun ρ => (o.ev ρ).bind fun a ρ1 => Rs.lift ((a.dat ρ1).bind truth) ρ1
section
variable {W : WX} {e a b c : Expr} {o : Opd} {f fa fb fc : EX} {g ga gb : BX} {pos : Pos} {rest : List Expr}
theorem dt_tru (ha : DO G X W a o) (hK : X.K = G.K := by rfl) (he : ∀ whole, isTrue a X.env whole = (do let v ← whole; standAt a.pos; holding [v] (truthy v)) := by intro _; rfl) : DT G X W a (bTru o) := by
  obtain ⟨t, p1, q1⟩ := ha
  refine ⟨_, pt_truth p1 he, fun F σ H Hf ρ Q R p => ?_⟩
  refine q1 F σ H Hf ρ _ R ((PostE.bind p).imp fun a1 H1 Hf1 ρ1 _ R1 s1 p v r => ?_)
  obtain ⟨b, hb, q⟩ := lift_post (H := H1) p
  obtain ⟨d, h1, h2⟩ := Option.bind_eq_some_iff.mp hb
  exact ⟨b, tru_of hK R1.sub (ArgOk.rq R1 r h1) h2, q H1 Hf1 R1 (Same.refl _)⟩
def bBl (f : EX) : BX := fun ρ => (f ρ).bind fun d ρ1 => match d with
  | .bl b => .ok b ρ1
  | _ => .bad
/-- what a comparison is, as a test -/
theorem dt_of {mk : TE → TT} (hm : ∀ {t : TE} {σ : L2.St} {H : Hp} {Q : Bool → Hp → Prop}, t σ H (fun x H' => ∃ k, x = .bl k ∧ Q k H') → mk t σ H Q) (h : ∃ t, PT X a (mk t) ∧ ∀ (F : Fr) (σ : L2.St) (H Hf : Hp) (ρ : PEnv) (Q : VK), Rep G F σ H Hf ρ →
    PostE G F W σ Hf (fun d H' Hf' _ => ∀ v, Rp G Hf' v d → Q v H') (f ρ) → t σ H Q) : DT G X W a (bBl f) := by
  obtain ⟨t, p1, q1⟩ := h
  refine ⟨_, p1, fun F σ H Hf ρ Q R p => hm (q1 F σ H Hf ρ _ R ((PostE.bind p).imp fun d H1 Hf1 ρ1 _ R1 s1 p v r => ?_))⟩
  cases d with
  | bl k =>
    obtain rfl := rp_b r
    exact ⟨k, rfl, p H1 Hf1 R1 (Same.refl _)⟩
  | _ => exact p.elim
theorem dt_cmp {op : CmpOp} {g : D → D → Option D} {o1 o2 : Opd} (k : OpD G X (compareOp op) g) (ha : DO G X W a o1) (hb : DO G X W b o2) (hm : behindInMarks op b = false) : DT G X W (.Compare a [op] [b] pos) (bBl (eOp (op2 g) [o1, o2])) := by
  obtain ⟨r, hr, kr⟩ := k
  obtain ⟨t1, p1, q1⟩ := ha
  obtain ⟨t2, p2, q2⟩ := hb
  refine dt_of (mk := tTest) (fun h => h) ⟨tOp r t1 t2, pt_cmpR hr p1 p2 hm, fun F σ H Hf ρ Q R p => ?_⟩
  refine q1 F σ H Hf ρ _ R ((PostE.bind (PostE.bind p)).imp fun a1 H1 Hf1 ρ1 _ R1 s1 p v1 r1 => ?_)
  refine q2 F σ H1 Hf1 ρ1 _ R1 ((PostE.bind (PostE.bind p)).imp fun a2 H2 Hf2 ρ2 _ R2 s2 p v2 r2 => ?_)
  have p := p H2 Hf2 R2 (Same.refl _) H2 Hf2 R2 (Same.refl _)
  obtain ⟨d, hd, q⟩ := lift_post (H := H2) p
  obtain ⟨ds, h1, h2⟩ := Option.bind_eq_some_iff.mp hd
  have as : ArgsOk G σ Hf2 [v1, v2] [a1, a2] := .cons (r1.mono s2) (.cons r2 .nil)
  cases as.rq R2 h1 with
  | cons x1 t =>
    cases t with
    | cons x2 t =>
      cases t
      exact kr F σ H2 Hf2 ρ2 v1 v2 _ _ d Q R2 x1 x2 h2 fun u H' Hf' R' s' r' => q H' Hf' R' s' u r'
/-- a < b < c -/
def eChain (g g' : D → D → Option D) (fa fb fc : EX) : EX := fun ρ => (fa ρ).bind fun x ρ1 => (fb ρ1).bind fun y ρ2 => (Rs.lift (g x y) ρ2).bind fun z ρ3 => match z with
  | .bl true => (fc ρ3).bind fun w ρ4 => Rs.lift (g' y w) ρ4
  | .bl false => .ok (.bl false) ρ3
  | _ => .bad
/-! and, or, not -/
def bAnd (ga gb : BX) : BX := fun ρ => (ga ρ).bind fun b ρ1 => if b = true then gb ρ1 else .ok false ρ1
def bOr (ga gb : BX) : BX := fun ρ => (ga ρ).bind fun b ρ1 => if b = true then .ok true ρ1 else gb ρ1
def bNot (ga : BX) : BX := fun ρ => (ga ρ).bind fun b ρ1 => .ok (!b) ρ1
theorem dw_and1 (ha : DT G X W a ga) : DW G X W (.BoolOp .And [a] pos) ga := by
  obtain ⟨t, p, q⟩ := ha
  exact ⟨t, pw_and1 p, q⟩
theorem dw_or1 (ha : DT G X W a ga) : DW G X W (.BoolOp .Or [a] pos) ga := by
  obtain ⟨t, p, q⟩ := ha
  exact ⟨t, pw_or1 p, q⟩
theorem dw_and (ha : DT G X W a ga) (hb : DW G X W (.BoolOp .And (b :: rest) pos) gb) : DW G X W (.BoolOp .And (a :: b :: rest) pos) (bAnd ga gb) := by
  obtain ⟨t1, p1, q1⟩ := ha
  obtain ⟨t2, p2, q2⟩ := hb
  refine ⟨_, pw_and p1 p2, fun F σ H Hf ρ Q R p => ?_⟩
  refine q1 F σ H Hf ρ _ R ((PostE.bind p).imp fun k H1 Hf1 ρ1 _ R1 s1 p => ?_)
  by_cases hk : k = true
  · rw [if_pos hk] at p ⊢
    exact q2 F σ H1 Hf1 ρ1 _ R1 p
  · rw [if_neg hk] at p ⊢
    exact p H1 Hf1 R1 (Same.refl _)
theorem dw_or (ha : DT G X W a ga) (hb : DW G X W (.BoolOp .Or (b :: rest) pos) gb) : DW G X W (.BoolOp .Or (a :: b :: rest) pos) (bOr ga gb) := by
  obtain ⟨t1, p1, q1⟩ := ha
  obtain ⟨t2, p2, q2⟩ := hb
  refine ⟨_, pw_or p1 p2, fun F σ H Hf ρ Q R p => ?_⟩
  refine q1 F σ H Hf ρ _ R ((PostE.bind p).imp fun k H1 Hf1 ρ1 _ R1 s1 p => ?_)
  by_cases hk : k = true
  · rw [if_pos hk] at p ⊢
    exact p H1 Hf1 R1 (Same.refl _)
  · rw [if_neg hk] at p ⊢
    exact q2 F σ H1 Hf1 ρ1 _ R1 p
theorem dt_not (ha : DT G X W a ga) : DT G X W (.UnaryOp .Not a pos) (bNot ga) := by
  obtain ⟨t1, p1, q1⟩ := ha
  refine ⟨_, pt_not p1, fun F σ H Hf ρ Q R p => ?_⟩
  exact q1 F σ H Hf ρ _ R ((PostE.bind p).imp fun k H1 Hf1 ρ1 _ R1 s1 p => p H1 Hf1 R1 (Same.refl _))
/-- .. as values -/
def eAnd (fa fb : EX) : EX := fun ρ => (fa ρ).bind fun x ρ1 => match truth x with
  | some true => fb ρ1
  | some false => .ok x ρ1
  | none => .bad
def eOr (fa fb : EX) : EX := fun ρ => (fa ρ).bind fun x ρ1 => match truth x with
  | some true => .ok x ρ1
  | some false => fb ρ1
  | none => .bad
def eNot (o : Opd) : EX := fun ρ => (o.ev ρ).bind fun a ρ1 => Rs.lift (((a.dat ρ1).bind truth).map fun b => D.bl (!b)) ρ1
theorem de_one {op : BoolOp} (ha : DE G X W a fa) : DE G X W (.BoolOp op [a] pos) fa := by
  obtain ⟨t, p, q⟩ := ha
  exact ⟨t, pe_one p, q⟩
theorem de_and (ha : DE G X W a fa) (hb : DE G X W (.BoolOp .And (b :: rest) pos) fb) (hK : X.K = G.K := by rfl) : DE G X W (.BoolOp .And (a :: b :: rest) pos) (eAnd fa fb) := by
  obtain ⟨t1, p1, q1⟩ := DE.elim ha
  obtain ⟨t2, p2, q2⟩ := DE.elim hb
  refine DE.intro ⟨_, pe_andT p1 p2, fun F σ H Hf ρ Q R p => ?_⟩
  refine q1 F σ H Hf ρ _ R ((PostE.bind p).imp fun x H1 Hf1 ρ1 _ R1 s1 p v1 r1 => ?_)
  cases ht : truth x with
  | none => rw [ht] at p; exact p.elim
  | some k =>
    rw [ht] at p
    refine ⟨k, tru_of hK R1.sub (.inl r1) ht, ?_⟩
    cases k with
    | true => exact q2 F σ H1 Hf1 ρ1 _ R1 p
    | false => exact p H1 Hf1 R1 (Same.refl _) v1 r1
theorem de_or (ha : DE G X W a fa) (hb : DE G X W (.BoolOp .Or (b :: rest) pos) fb) (hK : X.K = G.K := by rfl) : DE G X W (.BoolOp .Or (a :: b :: rest) pos) (eOr fa fb) := by
  obtain ⟨t1, p1, q1⟩ := DE.elim ha
  obtain ⟨t2, p2, q2⟩ := DE.elim hb
  refine DE.intro ⟨_, pe_orT p1 p2, fun F σ H Hf ρ Q R p => ?_⟩
  refine q1 F σ H Hf ρ _ R ((PostE.bind p).imp fun x H1 Hf1 ρ1 _ R1 s1 p v1 r1 => ?_)
  cases ht : truth x with
  | none => rw [ht] at p; exact p.elim
  | some k =>
    rw [ht] at p
    refine ⟨k, tru_of hK R1.sub (.inl r1) ht, ?_⟩
    cases k with
    | true => exact p H1 Hf1 R1 (Same.refl _) v1 r1
    | false => exact q2 F σ H1 Hf1 ρ1 _ R1 p
theorem de_not (ha : DO G X W a o) (hK : X.K = G.K := by rfl) : DE G X W (.UnaryOp .Not a pos) (eNot o) := by
  obtain ⟨t1, p1, q1⟩ := ha
  refine DE.intro ⟨_, pe_notT p1, fun F σ H Hf ρ Q R p => ?_⟩
  refine q1 F σ H Hf ρ _ R ((PostE.bind p).imp fun a1 H1 Hf1 ρ1 _ R1 s1 p v r => ?_)
  obtain ⟨b, hb, q⟩ := lift_post (H := H1) p
  obtain ⟨k, h1, rfl⟩ := Option.map_eq_some_iff.mp hb
  obtain ⟨d, h1, h2⟩ := Option.bind_eq_some_iff.mp h1
  exact ⟨k, tru_of hK R1.sub (ArgOk.rq R1 r h1) h2, q H1 Hf1 R1 (Same.refl _) _ (.bl _)⟩
def eIf (g : BX) (fa fb : EX) : EX := fun ρ => (g ρ).bind fun k ρ1 => if k = true then fa ρ1 else fb ρ1
theorem de_ifExp (hc : DT G X W c g) (ha : DE G X W a fa) (hb : DE G X W b fb) : DE G X W (.IfExp c a b pos) (eIf g fa fb) := by
  obtain ⟨t, p0, q0⟩ := hc
  obtain ⟨t1, p1, q1⟩ := DE.elim ha
  obtain ⟨t2, p2, q2⟩ := DE.elim hb
  refine DE.intro ⟨_, pe_ifExp p0 p1 p2, fun F σ H Hf ρ Q R p => ?_⟩
  refine q0 F σ H Hf ρ _ R ((PostE.bind p).imp fun k H1 Hf1 ρ1 _ R1 s1 p => ?_)
  by_cases hk : k = true
  · rw [if_pos hk] at p ⊢
    exact q1 F σ H1 Hf1 ρ1 _ R1 p
  · rw [if_neg hk] at p ⊢
    exact q2 F σ H1 Hf1 ρ1 _ R1 p
end
end
end Spk
namespace Spk
open PySem PySem.Spec PyProof.Rows L2
section
variable {G : Gx} {X : Cx} {W : WX} {e a b : Expr} {es : List Expr} {o : Opd} {os : List Opd} {pos : Pos}
/-! ### displays -/
def vals? : List Arg → Option (List D)
  | [] => some []
  | .val d :: as => (vals? as).map (d :: ·)
  | .sl _ :: _ => none
theorem ArgsOk.vals {σ : L2.St} {Hf : Hp} : ∀ {vs : List V} {as : List Arg} {ds : List D}, ArgsOk G σ Hf vs as → vals? as = some ds → RpL G Hf vs ds
  | _, _, _, .nil, e => by cases e; exact .nil
  | _, _, _, .cons (a := .val d) h t, e => by
    obtain ⟨ds, h1, rfl⟩ := Option.map_eq_some_iff.mp (show (vals? _).map _ = _ from e)
    exact .cons h (ArgsOk.vals t h1)
  | _, _, _, .cons (a := .sl i) h t, e => by cases e
def eTup (os : List Opd) : EX := fun ρ => (evs os ρ).bind fun as ρ1 => Rs.lift ((vals? as).bind fun ds => if ds.length ≤ sizeLine then some (.tup ds) else none) ρ1
theorem de_tup {x1 : Nat} (ha : DA G X W es os) : DE G X W (.Tuple es x1 pos) (eTup os) := by
  obtain ⟨t1, p1, q1⟩ := ha
  refine DE.intro ⟨_, pe_tup p1, fun F σ H Hf ρ Q R p => ?_⟩
  refine q1 F σ H Hf ρ _ R ((PostE.bind p).imp fun as H1 Hf1 ρ1 _ R1 s1 p vs rs => ?_)
  obtain ⟨d, hd, q⟩ := lift_post (H := H1) p
  obtain ⟨ds, h1, h2⟩ := Option.bind_eq_some_iff.mp hd
  obtain ⟨c, rfl⟩ := ite_some' h2
  have rl := rs.vals h1
  refine ⟨by rw [rl.len]; exact c, fun p np => ?_⟩
  obtain ⟨R', s', r'⟩ := R1.laidT np rl
  exact q _ _ R' s' _ r'
/-! ### a new list that nothing else knows -/
def DF (G : Gx) (X : Cx) (W : WX) (e : Expr) (f : PEnv → Rs (List D)) : Prop := ∃ t, PE X e t ∧ ∀ (F : Fr) (σ : L2.St) (H Hf : Hp) (ρ : PEnv) (Q : VK), Rep G F σ H Hf ρ →
  PostE G F W σ Hf (fun ds H' Hf' ρ' => ∀ (p : Addr) (vs : List V), H' p = none → RpL G Hf' vs ds → Q (.ref p) (upd H' p (.lst vs))) (f ρ) → t σ H Q
def eFr (f : PEnv → Rs (List D)) : EX := fun ρ => (f ρ).bind fun ds ρ1 => .ok (.lst ds) ρ1
theorem DF.de {f : PEnv → Rs (List D)} (h : DF G X W e f) : DE G X W e (eFr f) := by
  obtain ⟨t, p1, q1⟩ := h
  refine DE.intro ⟨t, p1, fun F σ H Hf ρ Q R p => q1 F σ H Hf ρ Q R ((PostE.bind p).imp fun ds H1 Hf1 ρ1 _ R1 s1 p q vs nq rl => ?_)⟩
  obtain ⟨R', s', r'⟩ := R1.laid nq rl
  exact p _ _ R' s' _ r'
def fLst (os : List Opd) : PEnv → Rs (List D) := fun ρ => (evs os ρ).bind fun as ρ1 => Rs.lift ((vals? as).bind fun ds => if ds.length ≤ sizeLine then some ds else none) ρ1
theorem df_lst (ha : DA G X W es os) : DF G X W (.List es pos) (fLst os) := by
  obtain ⟨t1, p1, q1⟩ := ha
  refine ⟨_, pe_lst p1, fun F σ H Hf ρ Q R p => ?_⟩
  refine q1 F σ H Hf ρ _ R ((PostE.bind p).imp fun as H1 Hf1 ρ1 _ R1 s1 p vs rs => ?_)
  obtain ⟨d, hd, q⟩ := lift_post (H := H1) p
  obtain ⟨ds, h1, h2⟩ := Option.bind_eq_some_iff.mp hd
  obtain ⟨c, rfl⟩ := ite_some' h2
  have rl := rs.vals h1
  exact ⟨by rw [rl.len]; exact c, fun p np => q _ _ R1 (Same.refl _) _ _ np rl⟩
/-! ### subscripts -/
def ixD : D → D → Option D
  | .lst ds, .int i => atI ds i
  | .tup ds, .int i => atI ds i
  | .scr ns, .int i => (atI ns i).map D.int
  | .str x, .int i => if x.length ≤ sizeLine then (atI x.cps.toList i).bind fun c => if PyData.canLay0 (.str ⟨#[c]⟩) = true then some (.str ⟨#[c]⟩) else none else none
  | _, _ => none
theorem atI_rp {H : Hp} {vs : List V} {ds : List D} {i : Int} {d : D} (r : RpL G H vs ds) (e : atI ds i = some d) : ∃ v, atI vs i = some v ∧ Rp G H v d := by
  unfold atI at e ⊢
  rw [r.len]
  cases h : ixN ds.length i with
  | none => rw [h] at e; cases e
  | some j =>
    rw [h] at e
    obtain ⟨v, h1, h2⟩ := r.getD (show ds[j]? = some d from e)
    exact ⟨v, h1, h2⟩
theorem atI_map {α β : Type} {f : α → β} {xs : List α} {i : Int} {x : α} (e : atI xs i = some x) : atI (xs.map f) i = some (f x) := by
  unfold atI at e ⊢
  rw [List.length_map]
  cases h : ixN xs.length i with
  | none => rw [h] at e; cases e
  | some j =>
    rw [h] at e
    show (xs.map f)[j]? = _
    rw [List.getElem?_map, show xs[j]? = some x from e]; rfl
theorem ix_all (hK : X.K = G.K) : IxR X (rIx G.K) := hK ▸ (IxR.or ix_list (IxR.or ix_tup ix_str))
theorem de_ix {o1 o2 : Opd} (ha : DO G X W a o1) (hb : DO G X W b o2) (hK : X.K = G.K := by rfl) (hs : PlainIx b := by exact fun _ _ => rfl) : DE G X W (.Subscript a b pos) (eOp (op2 ixD) [o1, o2]) := by
  obtain ⟨t1, p1, q1⟩ := ha
  obtain ⟨t2, p2, q2⟩ := hb
  refine DE.intro ⟨_, pe_ix (ix_all hK) p1 p2 hs, fun F σ H Hf ρ Q R p => ?_⟩
  refine q1 F σ H Hf ρ _ R ((PostE.bind (PostE.bind p)).imp fun a1 H1 Hf1 ρ1 _ R1 s1 p v1 r1 => ?_)
  refine q2 F σ H1 Hf1 ρ1 _ R1 ((PostE.bind (PostE.bind p)).imp fun a2 H2 Hf2 ρ2 _ R2 s2 p v2 r2 => ?_)
  have p := p H2 Hf2 R2 (Same.refl _) H2 Hf2 R2 (Same.refl _)
  obtain ⟨d, hd, q⟩ := lift_post (H := H2) p
  obtain ⟨ds, h1, h2⟩ := Option.bind_eq_some_iff.mp hd
  have as : ArgsOk G σ Hf2 [v1, v2] [a1, a2] := .cons (r1.mono s2) (.cons r2 .nil)
  cases as.rq R2 h1 with
  | cons x1 t =>
    cases t with
    | @cons _ _ y _ x2 t =>
      cases t
      rename_i x
      change ixD x y = some d at h2
      unfold ixD at h2
      split at h2
      · obtain rfl := x2.i
        obtain ⟨p, vs, rfl, hp, rl⟩ := x1.lst R2.sub
        obtain ⟨v, e, r⟩ := atI_rp rl h2
        exact .inl ⟨p, vs, _, v, rfl, rfl, SqL.hp hp, e, q H2 Hf2 R2 (Same.refl _) v r⟩
      · obtain rfl := x2.i
        obtain ⟨p, vs, rfl, hp, rl⟩ := x1.t R2.sub
        obtain ⟨v, e, r⟩ := atI_rp rl h2
        exact .inr (.inl ⟨p, vs, _, v, rfl, rfl, hp, e, q H2 Hf2 R2 (Same.refl _) v r⟩)
      · obtain rfl := x2.i
        obtain ⟨n, h3, rfl⟩ := Option.map_eq_some_iff.mp h2
        cases x1.nl (fun _ z => nomatch z) with
        | scr hp => exact .inl ⟨_, _, _, _, rfl, rfl, R2.sub.seq hp, atI_map h3, q H2 Hf2 R2 (Same.refl _) _ (.int _)⟩
      · obtain rfl := x2.i
        obtain ⟨rfl, _⟩ := x1.s
        rename_i z i _
        by_cases c : z.length ≤ sizeLine
        · rw [if_pos c] at h2
          obtain ⟨k, h3, h4⟩ := Option.bind_eq_some_iff.mp h2
          obtain ⟨c2, rfl⟩ := ite_some' h4
          exact .inr (.inr ⟨_, _, _, rfl, rfl, c, h3, q H2 Hf2 R2 (Same.refl _) _ (.str c2)⟩)
        · rw [if_neg c] at h2; cases h2
      · cases h2
/-- a slice's bound -/
def Bd := Option EX
def Bd.ev : Option EX → PEnv → Rs (Option Int)
  | none, ρ => .ok none ρ
  | some f, ρ => (f ρ).bind fun d ρ1 => match d with
    | .int i => .ok (some i) ρ1
    | _ => .bad
def DB (G : Gx) (X : Cx) (W : WX) (e : Option Expr) (f : Option EX) : Prop := ∃ t, PO X e t ∧ ∀ (F : Fr) (σ : L2.St) (H Hf : Hp) (ρ : PEnv) (Q : Option Int → Hp → Prop), Rep G F σ H Hf ρ →
  PostE G F W σ Hf (fun i H' _ _ => Q i H') (Bd.ev f ρ) → t σ H Q
theorem db_none : DB G X W none none := ⟨_, po_none, fun F σ H Hf ρ Q R p => p H Hf R (Same.refl _)⟩
theorem db_some {f : EX} (h : DE G X W e f) : DB G X W (some e) (some f) := by
  obtain ⟨t, p1, q1⟩ := DE.elim h
  refine ⟨_, po_some p1, fun F σ H Hf ρ Q R p => q1 F σ H Hf ρ _ R ((PostE.bind p).imp fun d H1 Hf1 ρ1 _ R1 s1 p v r => ?_)⟩
  cases d with
  | int i =>
    obtain rfl := rp_i r
    exact ⟨i, rfl, p H1 Hf1 R1 (Same.refl _)⟩
  | _ => exact p.elim
def cutD (ds : List D) (lo hi : Option Int) : List D := (ds.drop (HT.sIx ds.length 0 lo)).take (HT.sIx ds.length ds.length hi - HT.sIx ds.length 0 lo)
def slD (lo hi : Option Int) : D → Option D
  | .lst ds => some (.lst (cutD ds lo hi))
  | .tup ds => some (.tup (cutD ds lo hi))
  | .scr ns => some (.lst ((((ns.drop (HT.sIx ns.length 0 lo)).take (HT.sIx ns.length ns.length hi - HT.sIx ns.length 0 lo))).map D.int))
  | _ => none
theorem RpL.ints {H : Hp} : ∀ (ns : List Int), RpL G H (ns.map V.int) (ns.map D.int)
  | [] => .nil
  | n :: ns => .cons (.int n) (RpL.ints ns)
def eSl (o : Opd) (lo hi : Option EX) : EX := fun ρ => (o.ev ρ).bind fun a ρ1 => (Bd.ev lo ρ1).bind fun l ρ2 => (Bd.ev hi ρ2).bind fun h ρ3 => Rs.lift ((a.dat ρ3).bind (slD l h)) ρ3
theorem slr_or {r1 r2 : V → Option Int → Option Int → Hp → VK → Prop} (h1 : SlR X r1) (h2 : SlR X r2) : SlR X (fun x l h H Q => r1 x l h H Q ∨ r2 x l h H Q) := by
  intro pins s σ H x v vl vu lo hi sl Q I rx hs pl pu h
  rcases h with h | h
  · exact h1 pins s σ H x v vl vu lo hi sl Q I rx hs pl pu h
  · exact h2 pins s σ H x v vl vu lo hi sl Q I rx hs pl pu h
theorem de_slice {lo hi : Option Expr} {fl fh : Option EX} {p2 : Pos} (ha : DO G X W a o) (hl : DB G X W lo fl) (hh : DB G X W hi fh) (hK : X.K = G.K := by rfl) : DE G X W (.Subscript a (.Slice lo hi none p2) pos) (eSl o fl fh) := by
  obtain ⟨t1, p1, q1⟩ := ha
  obtain ⟨t2, p2, q2⟩ := hl
  obtain ⟨t3, p3, q3⟩ := hh
  refine DE.intro ⟨_, pe_slice (slr_or (hK ▸ sl_list : SlR X (rSlL G.K)) (hK ▸ sl_tupA : SlR X (rSlA G.K))) p1 p2 p3, fun F σ H Hf ρ Q R p => ?_⟩
  refine q1 F σ H Hf ρ _ R ((PostE.bind p).imp fun a1 H1 Hf1 ρ1 _ R1 s1 p v1 r1 => ?_)
  refine q2 F σ H1 Hf1 ρ1 _ R1 ((PostE.bind p).imp fun l H2 Hf2 ρ2 _ R2 s2 p => ?_)
  refine q3 F σ H2 Hf2 ρ2 _ R2 ((PostE.bind p).imp fun h H3 Hf3 ρ3 _ R3 s3 p => ?_)
  obtain ⟨d, hd, q⟩ := lift_post (H := H3) p
  obtain ⟨x, h1, h2⟩ := Option.bind_eq_some_iff.mp hd
  have x1 := ArgOk.rq R3 (r1.mono (s2.trans s3)) h1
  unfold slD at h2
  split at h2
  · rename_i _ dd
    cases h2
    obtain ⟨p, vs, rfl, hp, rl⟩ := x1.lst R3.sub
    refine .inl ⟨p, vs, rfl, SqL.hp hp, fun p np => ?_⟩
    have rc : RpL G Hf3 (cutV vs l h) (cutD dd l h) := by
      unfold cutV cutD
      rw [rl.len]
      exact (rl.drop _).take _
    obtain ⟨R', s', r'⟩ := R3.laid np rc
    exact q _ _ R' s' _ r'
  · rename_i _ dd
    cases h2
    obtain ⟨p, vs, rfl, hp, rl⟩ := x1.t R3.sub
    have rc : RpL G Hf3 (cutV vs l h) (cutD dd l h) := by
      unfold cutV cutD
      rw [rl.len]
      exact (rl.drop _).take _
    refine .inr ⟨p, vs, rfl, hp, fun z => ?_, fun _ p np => ?_⟩
    · have e : ∀ ds : List D, HT.sIx ds.length 0 l = 0 ∧ HT.sIx ds.length ds.length h = ds.length → cutD ds l h = ds := fun ds z => by
        unfold cutD
        rw [z.1, z.2, List.drop_zero, Nat.sub_zero, List.take_length]
      rw [rl.len] at z
      rw [e _ z] at q
      exact q H3 Hf3 R3 (Same.refl _) _ (x1.nl fun _ z => nomatch z)
    · obtain ⟨R', s', r'⟩ := R3.laidT np rc
      exact q _ _ R' s' _ r'
  · cases h2
    rename_i ns
    cases x1.nl (fun _ z => nomatch z) with
    | scr hp =>
      refine .inl ⟨_, _, rfl, R3.sub.seq hp, fun p np => ?_⟩
      have rc : RpL G Hf3 (cutV (ns.map V.int) l h) ((((ns.drop (HT.sIx ns.length 0 l)).take (HT.sIx ns.length ns.length h - HT.sIx ns.length 0 l))).map D.int) := by
        unfold cutV
        rw [List.length_map, ← List.map_drop, ← List.map_take]
        exact RpL.ints _
      obtain ⟨R', s', r'⟩ := R3.laid np rc
      exact q _ _ R' s' _ r'
  · cases h2
/-! ### built-ins -/
theorem RqL.one {H Hf : Hp} {vs : List V} {x : D} (h : RqL G H Hf vs [x]) : ∃ v, vs = [v] ∧ Rq G H Hf v x := by
  cases h with | cons a t => cases t; exact ⟨_, rfl, a⟩
theorem RqL.two {H Hf : Hp} {vs : List V} {x y : D} (h : RqL G H Hf vs [x, y]) : ∃ v w, vs = [v, w] ∧ Rq G H Hf v x ∧ Rq G H Hf w y := by
  cases h with | cons a t => cases t with | cons b t => cases t; exact ⟨_, _, rfl, a, b⟩
theorem op1_of {op : D → Option D} {ds : List D} {d : D} (e : op1 op ds = some d) : ∃ x, ds = [x] ∧ op x = some d := by
  match ds, e with
  | [x], e => exact ⟨x, rfl, e⟩
theorem op2_of {op : D → D → Option D} {ds : List D} {d : D} (e : op2 op ds = some d) : ∃ x y, ds = [x, y] ∧ op x y = some d := by
  match ds, e with
  | [x, y], e => exact ⟨x, y, rfl, e⟩
def lenD : D → Option D
  | .lst ds => some (.int ds.length)
  | .tup ds => some (.int ds.length)
  | .scr ns => some (.int ns.length)
  | .str x => if x.length ≤ sizeLine then some (.int x.length) else none
  | _ => none
theorem cd_len (hK : X.K = G.K := by rfl) : CallD G X (.builtin "len") (op1 lenD) := by
  refine ⟨_, hK ▸ call_len, fun F σ H Hf ρ vs ds d Q R rs e0 q => ?_⟩
  obtain ⟨x, rfl, ee⟩ := op1_of e0
  obtain ⟨v, rfl, r⟩ := rs.one
  cases x <;> simp only [lenD] at ee <;> try cases ee
  · obtain ⟨c, rfl⟩ := ite_some' ee
    obtain ⟨rfl, _⟩ := r.s
    exact ⟨_, _, rfl, ⟨c, rfl⟩, q _ H Hf R (Same.refl _) (.int _)⟩
  · obtain ⟨p, ws, rfl, hp, rl⟩ := r.lst R.sub
    rw [← rl.len] at q
    exact ⟨_, _, rfl, .inl ⟨ws, SqL.hp hp, rfl⟩, q _ H Hf R (Same.refl _) (.int _)⟩
  · obtain ⟨p, ws, rfl, hp, rl⟩ := r.t R.sub
    rw [← rl.len] at q
    exact ⟨_, _, rfl, .inr ⟨ws, hp, rfl⟩, q _ H Hf R (Same.refl _) (.int _)⟩
  · rename_i ns
    cases r.nl (fun _ z => nomatch z) with
    | scr hp => exact ⟨_, _, rfl, .inl ⟨_, R.sub.seq hp, rfl⟩, q _ H Hf R (Same.refl _) (by rw [List.length_map]; exact .int _)⟩
def absD : D → Option D
  | .int i => some (.int (if i < 0 then -i else i))
  | _ => none
theorem cd_abs : CallD G X (.builtin "abs") (op1 absD) := by
  refine ⟨_, call_abs, fun F σ H Hf ρ vs ds d Q R rs e0 q => ?_⟩
  obtain ⟨x, rfl, ee⟩ := op1_of e0
  obtain ⟨v, rfl, r⟩ := rs.one
  cases x <;> simp only [absD] at ee <;> cases ee
  obtain rfl := r.i
  exact ⟨_, rfl, q _ H Hf R (Same.refl _) (.int _)⟩
def maxD : D → D → Option D := intOp fun i j => some (if j > i then j else i)
def minD : D → D → Option D := intOp fun i j => some (if j < i then j else i)
theorem cd_ii {f : Value} {g : Int → Int → Int} (h : CallR X f (fun xs H Q => ∃ i j, xs = [.int i, .int j] ∧ Q (.int (g i j)) H)) : CallD G X f (op2 (intOp fun i j => some (g i j))) := by
  refine ⟨_, h, fun F σ H Hf ρ vs ds d Q R rs e0 q => ?_⟩
  obtain ⟨x, y, rfl, ee⟩ := op2_of e0
  obtain ⟨v, w, rfl, r1, r2⟩ := rs.two
  cases x <;> cases y <;> simp only [intOp, Option.map_some] at ee <;> cases ee
  obtain rfl := r1.i
  obtain rfl := r2.i
  exact ⟨_, _, rfl, q _ H Hf R (Same.refl _) (.int _)⟩
theorem cd_max2 (hc : X.calm = true := by rfl) : CallD G X (.builtin "max") (op2 maxD) := cd_ii (call_max2 hc)
theorem cd_min2 (hc : X.calm = true := by rfl) : CallD G X (.builtin "min") (op2 minD) := cd_ii (call_min2 hc)
def intD : D → Option D
  | .int i => some (.int i)
  | .bl b => some (.int (if b then 1 else 0))
  | _ => none
theorem cd_int : CallD G X (.type "int") (op1 intD) := by
  refine ⟨_, call_int1, fun F σ H Hf ρ vs ds d Q R rs e0 q => ?_⟩
  obtain ⟨x, rfl, ee⟩ := op1_of e0
  obtain ⟨v, rfl, r⟩ := rs.one
  cases x <;> simp [intD] at ee <;> cases ee
  · obtain rfl := r.b
    exact .inr ⟨_, rfl, q _ H Hf R (Same.refl _) (.int _)⟩
  · obtain rfl := r.i
    exact .inl ⟨_, rfl, q _ H Hf R (Same.refl _) (.int _)⟩
def tupD : D → Option D
  | .lst ds => some (.tup ds)
  | .tup ds => some (.tup ds)
  | .scr ns => some (.tup (ns.map D.int))
  | _ => none
theorem cd_tup (hK : X.K = G.K := by rfl) : CallD G X (.type "tuple") (op1 tupD) := by
  refine ⟨_, hK ▸ call_tuple_of, fun F σ H Hf ρ vs ds d Q R rs e0 q => ?_⟩
  obtain ⟨x, rfl, ee⟩ := op1_of e0
  obtain ⟨v, rfl, r⟩ := rs.one
  cases x <;> simp only [tupD] at ee <;> cases ee
  · obtain ⟨p, ws, rfl, hp, rl⟩ := r.lst R.sub
    refine ⟨_, _, rfl, .inl ⟨SqL.hp hp, fun l nl => ?_⟩⟩
    obtain ⟨R', s', r'⟩ := R.laidT nl rl
    exact q _ _ _ R' s' r'
  · obtain ⟨p, ws, rfl, hp, rl⟩ := r.t R.sub
    exact ⟨_, _, rfl, .inr ⟨hp, q _ H Hf R (Same.refl _) (r.nl fun _ z => nomatch z)⟩⟩
  · cases r.nl (fun _ z => nomatch z) with
    | scr hp =>
      refine ⟨_, _, rfl, .inl ⟨R.sub.seq hp, fun l nl => ?_⟩⟩
      obtain ⟨R', s', r'⟩ := R.laidT nl (RpL.ints _)
      exact q _ _ _ R' s' r'
end
end Spk
namespace Spk
open PySem PySem.Spec PyProof.Rows L2
/-! ### targets -/
abbrev TGf := D → PEnv → Option PEnv
/-- a target: idx, the slots that it stores to -/
def DG (G : Gx) (X : Cx) (e : Expr) (idx : List Nat) (g : TGf) : Prop := ∃ t, PG X e t ∧ ∀ (F : Fr) (σ : L2.St) (H Hf : Hp) (ρ ρ' : PEnv) (v : V) (d : D) (Q : L2.St → Hp → Prop), Rep G F σ H Hf ρ → Rp G Hf v d → g d ρ = some ρ' →
  (∀ σ', Rep G F σ' H Hf ρ' → (∀ vs, (∀ i ∈ idx, i ∈ vs) → wipe σ' vs = wipe σ vs) → Q σ' H) → t v σ H Q
def DGs (G : Gx) (X : Cx) (es : List Expr) (idx : List Nat) (g : List D → PEnv → Option PEnv) : Prop := ∃ t, PGs X es t ∧ ∀ (F : Fr) (σ : L2.St) (H Hf : Hp) (ρ ρ' : PEnv) (vs : List V) (ds : List D) (Q : L2.St → Hp → Prop), Rep G F σ H Hf ρ → RpL G Hf vs ds → g ds ρ = some ρ' →
  (∀ σ', Rep G F σ' H Hf ρ' → (∀ vs, (∀ i ∈ idx, i ∈ vs) → wipe σ' vs = wipe σ vs) → Q σ' H) → t vs σ H Q
theorem wipe_set {i : Nat} {x : Option V} : ∀ {vs : List Nat} {σ : L2.St}, i ∈ vs → wipe (σ.set i x) vs = wipe σ vs
  | v :: vs, σ, h => by
    unfold wipe
    by_cases e : i ∈ vs
    · rw [wipe_set e]
    · have e2 : i = v := (List.mem_cons.mp h).resolve_right e
      subst e2
      have go : ∀ ws : List Nat, i ∉ ws → wipe (σ.set i x) ws = (wipe σ ws).set i x := by
        intro ws
        induction ws with
        | nil => intro _; rfl
        | cons w ws ih =>
          intro hn
          unfold wipe
          have n1 : i ≠ w := fun z => hn (z ▸ List.mem_cons_self)
          rw [ih fun z => hn (List.mem_cons_of_mem _ z), List.set_comm _ _ n1]
      rw [go vs e, List.set_set]
def notBor (ρ : PEnv) (i : Nat) : Bool := match ρ[i]? with
  | some (.bor _) => false
  | _ => true
def gSet (i : Nat) : TGf := fun d ρ => if notBor ρ i = true then some (ρ.set i (.val d)) else none
section
variable {G : Gx} {X : Cx} {W : WX} {e : Expr} {es : List Expr} {pos : Pos}
theorem dg_name {i : Nat} {x : Str} (hN : X.N.Nodup) (hi : X.N[i]? = some x := by rfl) (hx : Loc X.env.scope x := by first | exact .inl rfl | exact .inr rfl) (hf : X.fn x = true ∨ X.env.scope.names.lookup x = some .local := by first | exact .inl rfl | exact .inr rfl | assumption) : DG G X (.Name x pos) [i] (gSet i) := by
  refine ⟨_, pg_name (i := i) hN hi hx hf, fun F σ H Hf ρ ρ' v d Q R r eg q => ?_⟩
  obtain ⟨_, rfl⟩ := ite_some' eg
  exact q _ (R.set i r) fun vs h => wipe_set (h i (List.mem_singleton_self i))
def gsNil : List D → PEnv → Option PEnv := fun ds ρ => match ds with
  | [] => some ρ
  | _ => none
def gsCons (g : TGf) (gs : List D → PEnv → Option PEnv) : List D → PEnv → Option PEnv := fun ds ρ => match ds with
  | d :: r => (g d ρ).bind (gs r)
  | _ => none
theorem dgs_nil : DGs G X [] [] gsNil := by
  refine ⟨_, pgs_nil, fun F σ H Hf ρ ρ' vs ds Q R r eg q => ?_⟩
  cases r with
  | nil => cases eg; exact ⟨rfl, q σ R fun _ _ => rfl⟩
  | cons _ _ => cases eg
theorem dgs_cons {i1 i2 : List Nat} {g : TGf} {gs : List D → PEnv → Option PEnv} (h1 : DG G X e i1 g) (h2 : DGs G X es i2 gs) (hs : (assignEach (e :: es) X.env).map (·.2) = assign e X.env :: (assignEach es X.env).map (·.2) := by rfl) : DGs G X (e :: es) (i1 ++ i2) (gsCons g gs) := by
  obtain ⟨t1, p1, q1⟩ := h1
  obtain ⟨t2, p2, q2⟩ := h2
  refine ⟨_, pgs_cons p1 p2 hs, fun F σ H Hf ρ ρ' vs ds Q R r eg q => ?_⟩
  cases r with
  | nil => cases eg
  | @cons v vr d dr r1 r2 =>
    obtain ⟨ρ1, h1, h2⟩ := Option.bind_eq_some_iff.mp (show (g d ρ).bind (gs dr) = some ρ' from eg)
    refine ⟨v, vr, rfl, q1 F σ H Hf ρ ρ1 v d _ R r1 h1 fun σ1 R1 w1 => ?_⟩
    refine q2 F σ1 H Hf ρ1 ρ' vr dr _ R1 r2 h2 fun σ2 R2 w2 => ?_
    exact q σ2 R2 fun vs h => (w2 vs fun i hi => h i (List.mem_append_right _ hi)).trans (w1 vs fun i hi => h i (List.mem_append_left _ hi))
def gTupD (n : Nat) (gs : List D → PEnv → Option PEnv) : TGf := fun d ρ => match d with
  | .tup ds => if ds.length = n then gs ds ρ else none
  | _ => none
theorem dg_tup {k n : Nat} {idx : List Nat} {gs : List D → PEnv → Option PEnv} (hc : X.calm = true) (h : DGs G X es idx gs) (hK : X.K = G.K := by rfl) (hn : (assignEach es X.env).length = n := by rfl) (hst : (assignEach es X.env).findIdx? (·.1) = none := by rfl) : DG G X (.Tuple es k pos) idx (gTupD n gs) := by
  obtain ⟨t, p, q⟩ := h
  refine ⟨_, pg_tup hc p hn hst, fun F σ H Hf ρ ρ' v d Q R r eg k => ?_⟩
  cases d <;> simp only [gTupD] at eg <;> try cases eg
  rename_i ds
  by_cases c : ds.length = n
  · rw [if_pos c] at eg
    obtain ⟨a, vs, rfl, ha, rl⟩ := rp_t r
    exact ⟨a, vs, rfl, hK ▸ sameT R.sub ha, by rw [rl.len]; exact c, q F σ H Hf ρ ρ' vs ds Q R rl eg k⟩
  · rw [if_neg c] at eg; cases eg
end
/-! ### statements -/
inductive Sr where
  | nx (ρ : PEnv) | rt (d : D) (ρ : PEnv) | rf (ds : List D) (ρ : PEnv) | bk (ρ : PEnv) | ct (ρ : PEnv) | exc (C f : Str) (d : D) (ρ : PEnv) | bad
abbrev SX := PEnv → Sr
def Sr.of {α : Type} (r : Rs α) (k : α → PEnv → Sr) : Sr := match r with
  | .ok a ρ => k a ρ
  | .exc C f d ρ => .exc C f d ρ
  | .bad => .bad
@[simp] theorem Sr.of_ok {α : Type} {a : α} {ρ : PEnv} {k : α → PEnv → Sr} : Sr.of (.ok a ρ) k = k a ρ := rfl
@[simp] theorem Sr.of_exc {α : Type} {C f : Str} {d : D} {ρ : PEnv} {k : α → PEnv → Sr} : Sr.of (.exc C f d ρ : Rs α) k = .exc C f d ρ := rfl
def Sr.seq (r : Sr) (k : SX) : Sr := match r with
  | .nx ρ => k ρ
  | r => r
@[simp] theorem Sr.seq_nx {ρ : PEnv} {k : SX} : (Sr.nx ρ).seq k = k ρ := rfl
@[simp] theorem Sr.seq_rt {d : D} {ρ : PEnv} {k : SX} : (Sr.rt d ρ).seq k = .rt d ρ := rfl
@[simp] theorem Sr.seq_rf {ds : List D} {ρ : PEnv} {k : SX} : (Sr.rf ds ρ).seq k = .rf ds ρ := rfl
@[simp] theorem Sr.seq_exc {C f : Str} {d : D} {ρ : PEnv} {k : SX} : (Sr.exc C f d ρ).seq k = .exc C f d ρ := rfl
@[simp] theorem Sr.seq_bk {ρ : PEnv} {k : SX} : (Sr.bk ρ).seq k = .bk ρ := rfl
@[simp] theorem Sr.seq_ct {ρ : PEnv} {k : SX} : (Sr.ct ρ).seq k = .ct ρ := rfl
def PostS (G : Gx) (F : Fr) (W : WX) (Hf : Hp) (En : L2.Ends) : Sr → Prop
  | .nx ρ' => ∀ σ' H' Hf', Rep G F σ' H' Hf' ρ' → Same Hf Hf' → En.nx σ' H'
  | .rt d ρ' => ∀ v σ' H' Hf', Rep G F σ' H' Hf' ρ' → Same Hf Hf' → Rp G Hf' v d → En.rt v H'
  | .rf ds ρ' => ∀ (p : Addr) (vs : List V) σ' H' Hf', Rep G F σ' H' Hf' ρ' → Same Hf Hf' → H' p = none → RpL G Hf' vs ds → En.rt (.ref p) (upd H' p (.lst vs))
  | .bk ρ' => ∀ σ' H' Hf', Rep G F σ' H' Hf' ρ' → Same Hf Hf' → En.bk σ' H'
  | .ct ρ' => ∀ σ' H' Hf', Rep G F σ' H' Hf' ρ' → Same Hf Hf' → En.ct σ' H'
  | .exc C f d ρ' => ∀ v dd σ' H' Hf', Rep G F σ' H' Hf' ρ' → Same Hf Hf' → Rp G Hf' v d → Hf' dd = some (.xd [(f, v)]) → W (.ref (G.cm C)) (some dd) σ' H'
  | .bad => False
section
variable {G : Gx} {F : Fr} {W : WX} {Hf Hf' : Hp} {En : L2.Ends}
theorem PostS.mono {r : Sr} (h : PostS G F W Hf En r) (s : Same Hf Hf') : PostS G F W Hf' En r := by
  cases r with
  | nx ρ => exact fun σ2 H2 Hf2 R t => h σ2 H2 Hf2 R (s.trans t)
  | rt d ρ => exact fun v σ2 H2 Hf2 R t => h v σ2 H2 Hf2 R (s.trans t)
  | rf ds ρ => exact fun p vs σ2 H2 Hf2 R t => h p vs σ2 H2 Hf2 R (s.trans t)
  | bk ρ => exact fun σ2 H2 Hf2 R t => h σ2 H2 Hf2 R (s.trans t)
  | ct ρ => exact fun σ2 H2 Hf2 R t => h σ2 H2 Hf2 R (s.trans t)
  | exc C f d ρ => exact fun v dd σ2 H2 Hf2 R t => h v dd σ2 H2 Hf2 R (s.trans t)
  | bad => exact h
theorem PostS.of {α : Type} {σ : L2.St} {r : Rs α} {k : α → PEnv → Sr} (h : PostS G F W Hf En (Sr.of r k)) : PostE G F W σ Hf (fun a _ Hf' ρ' => PostS G F W Hf' En (k a ρ')) r := by
  cases r with
  | ok a ρ' => exact fun H2 Hf2 R t => PostS.mono h t
  | exc C f d ρ' => exact fun v dd H2 Hf2 R t => h v dd σ H2 Hf2 R t
  | bad => exact h
end
def DS (G : Gx) (X : Cx) (W : WX) (st : Stmt) (f : SX) : Prop := ∃ t, PS X st t ∧ ∀ (F : Fr) (σ : L2.St) (H Hf : Hp) (ρ : PEnv) (En : L2.Ends), Rep G F σ H Hf ρ → PostS G F W Hf En (f ρ) → t En σ H
def DSs (G : Gx) (X : Cx) (W : WX) (sts : List Stmt) (f : SX) : Prop := ∃ t, PSs X sts t ∧ ∀ (F : Fr) (σ : L2.St) (H Hf : Hp) (ρ : PEnv) (En : L2.Ends), Rep G F σ H Hf ρ → PostS G F W Hf En (f ρ) → t En σ H
section
variable {G : Gx} {X : Cx} {W : WX} {e a : Expr} {es : List Expr} {st : Stmt} {rest b1 b2 : List Stmt} {f f1 f2 : SX} {fe : EX} {pos : Pos}
def sNil : SX := fun ρ => .nx ρ
def sSeq (f g : SX) : SX := fun ρ => (f ρ).seq g
theorem dss_nil : DSs G X W [] sNil := ⟨_, pss_nil, fun F σ H Hf ρ En R p => p σ H Hf R (Same.refl _)⟩
theorem dss_one (h : DS G X W st f) : DSs G X W [st] f := by
  obtain ⟨t, p, q⟩ := h
  exact ⟨t, pss_one p, q⟩
theorem PostS.seq {F : Fr} {Hf : Hp} {En : L2.Ends} {r : Sr} {k : SX} (h : PostS G F W Hf En (r.seq k)) : PostS G F W Hf { En with nx := fun σ' H' => ∃ Hf' ρ', Rep G F σ' H' Hf' ρ' ∧ PostS G F W Hf' En (k ρ') } r := by
  cases r with
  | nx ρ => exact fun σ2 H2 Hf2 R t => ⟨Hf2, ρ, R, PostS.mono h t⟩
  | rt d ρ => exact h
  | rf ds ρ => exact h
  | bk ρ => exact h
  | ct ρ => exact h
  | exc C f d ρ => exact h
  | bad => exact h
/-- what is behind a statement, however the statement ends: the rest is read once -/
theorem dss_cons (h1 : DS G X W st f1) (h2 : DSs G X W rest f2) : DSs G X W (st :: rest) (sSeq f1 f2) := by
  obtain ⟨t1, p1, q1⟩ := h1
  obtain ⟨t2, p2, q2⟩ := h2
  refine ⟨_, pss_mid p1 p2, fun F σ H Hf ρ En R p => ?_⟩
  refine ⟨fun σ' H' => ∃ Hf' ρ', Rep G F σ' H' Hf' ρ' ∧ PostS G F W Hf' En (f2 ρ'), q1 F σ H Hf ρ _ R (PostS.seq p), fun τ J ⟨Hf', ρ', R', q⟩ => q2 F τ J Hf' ρ' En R' q⟩
def sRet (fe : EX) : SX := fun ρ => Sr.of (fe ρ) fun d ρ1 => .rt d ρ1
theorem ds_ret (h : DE G X W e fe) : DS G X W (.Return (some e) pos) (sRet fe) := by
  obtain ⟨t, p1, q1⟩ := DE.elim h
  exact ⟨_, ps_ret p1, fun F σ H Hf ρ En R p => q1 F σ H Hf ρ _ R ((PostS.of p).imp fun d H1 Hf1 ρ1 _ R1 s1 p v r => p v σ H1 Hf1 R1 (Same.refl _) r)⟩
/-- a new list is given back -/
def sRetF (fl : PEnv → Rs (List D)) : SX := fun ρ => Sr.of (fl ρ) fun ds ρ1 => .rf ds ρ1
theorem ds_retF {fl : PEnv → Rs (List D)} (h : DF G X W e fl) : DS G X W (.Return (some e) pos) (sRetF fl) := by
  obtain ⟨t, p1, q1⟩ := h
  exact ⟨_, ps_ret p1, fun F σ H Hf ρ En R p => q1 F σ H Hf ρ _ R ((PostS.of p).imp fun ds H1 Hf1 ρ1 _ R1 s1 p a vs na r => p a vs σ H1 Hf1 R1 (Same.refl _) na r)⟩
def sRetN : SX := fun ρ => .rt .non ρ
def sExpr (fe : EX) : SX := fun ρ => Sr.of (fe ρ) fun _ ρ1 => .nx ρ1
theorem ds_expr (h : DE G X W e fe) (hs : swapsWith e none pos.line X.env = pure false := by rfl) : DS G X W (.Expr e pos) (sExpr fe) := by
  obtain ⟨t, p1, q1⟩ := DE.elim h
  exact ⟨_, ps_expr p1 hs, fun F σ H Hf ρ En R p => q1 F σ H Hf ρ _ R ((PostS.of p).imp fun d H1 Hf1 ρ1 _ R1 s1 p v r => p σ H1 Hf1 R1 (Same.refl _))⟩
/-- a statement that is never reached -/
def sBad : SX := fun _ => .bad
theorem ds_never : DS G X W st sBad := ⟨_, ps_never, fun F σ H Hf ρ En R p => p.elim⟩
def sSet (i : Nat) (fe : EX) : SX := fun ρ => Sr.of (fe ρ) fun d ρ1 => if notBor ρ1 i = true then .nx (ρ1.set i (.val d)) else .bad
theorem ds_set {i : Nat} {x : Str} {pos' : Pos} (hN : X.N.Nodup) (h : DE G X W e fe) (hi : X.N[i]? = some x := by rfl) (hx : Loc X.env.scope x := by first | exact .inl rfl | exact .inr rfl) (hs : swapsWith e (some (.Name x pos')) pos.line X.env = pure false := by rfl) (hf : X.fn x = true ∨ X.env.scope.names.lookup x = some .local := by first | exact .inl rfl | exact .inr rfl | assumption) :
    DS G X W (.Assign [.Name x pos'] e pos) (sSet i fe) := by
  obtain ⟨t, p1, q1⟩ := DE.elim h
  refine ⟨_, ps_set (i := i) hN hi hx p1 hs hf, fun F σ H Hf ρ En R p => q1 F σ H Hf ρ _ R ((PostS.of p).imp fun d H1 Hf1 ρ1 _ R1 s1 p v r => ?_)⟩
  split at p
  · exact p _ _ _ (R1.set i r) (Same.refl _)
  · exact p.elim
/-- x = a new list, which stays one's own -/
def sOwn (i : Nat) (fl : PEnv → Rs (List D)) : SX := fun ρ => Sr.of (fl ρ) fun ds ρ1 => if notBor ρ1 i = true then .nx (ρ1.set i (.own (.lst ds))) else .bad
theorem own_new {F : Fr} {σ : L2.St} {H Hf : Hp} {ρ : PEnv} (R : Rep G F σ H Hf ρ) (i : Nat) {p : Addr} {vs : List V} {ds : List D} (np : H p = none) (r : RpL G Hf vs ds) : Rep G F (σ.set i (some (.ref p))) (upd H p (.lst vs)) Hf (ρ.set i (.own (.lst ds))) := by
  refine (R.side np (.lst vs)).setOwn (ds := .lst ds) i upd_same (R.nf np) ?_ r fun j c es e1 e2 h => ?_
  · cases h : F.Pt p with
    | none => rfl
    | some o => have := (R.prot p o h).1; rw [np] at this; cases this
  · obtain ⟨q, m⟩ := (R.cell j c e1).mut e2
    have := m.at_
    rw [h] at this
    cases this
    exact m.ne np rfl
theorem ds_own {i : Nat} {x : Str} {pos' : Pos} {fl : PEnv → Rs (List D)} (hN : X.N.Nodup) (h : DF G X W e fl) (hi : X.N[i]? = some x := by rfl) (hx : Loc X.env.scope x := by first | exact .inl rfl | exact .inr rfl) (hs : swapsWith e (some (.Name x pos')) pos.line X.env = pure false := by rfl) (hf : X.fn x = true ∨ X.env.scope.names.lookup x = some .local := by first | exact .inl rfl | exact .inr rfl | assumption) :
    DS G X W (.Assign [.Name x pos'] e pos) (sOwn i fl) := by
  obtain ⟨t, p1, q1⟩ := h
  refine ⟨_, ps_set (i := i) hN hi hx p1 hs hf, fun F σ H Hf ρ En R p => q1 F σ H Hf ρ _ R ((PostS.of p).imp fun ds H1 Hf1 ρ1 _ R1 s1 p a vs na r => ?_)⟩
  split at p
  · exact p _ _ _ (own_new R1 i na r) (Same.refl _)
  · exact p.elim
/-- a target of several names -/
def sAsg (fe : EX) (g : TGf) : SX := fun ρ => Sr.of (fe ρ) fun d ρ1 => match g d ρ1 with
  | some ρ2 => .nx ρ2
  | none => .bad
theorem ds_asg {idx : List Nat} {g : TGf} (h : DE G X W e fe) (hg : DG G X a idx g) (hs : swapsWithSole [a] e pos.line X.env = pure false := by rfl) (hw : swappedStores [a] e X.env = pure none := by rfl)
    (h1 : (assignEach [a] X.env).map (·.2) = [assign a X.env] := by rfl) : DS G X W (.Assign [a] e pos) (sAsg fe g) := by
  obtain ⟨t, p1, q1⟩ := DE.elim h
  obtain ⟨t2, p2, q2⟩ := hg
  refine ⟨_, ps_asg p1 p2 hs hw h1, fun F σ H Hf ρ En R p => q1 F σ H Hf ρ _ R ((PostS.of p).imp fun d H1 Hf1 ρ1 _ R1 s1 p v r => ?_)⟩
  split at p
  · rename_i ρ2 hg
    exact q2 F σ H1 Hf1 ρ1 ρ2 v d _ R1 r hg fun σ' R' _ => p σ' H1 Hf1 R' (Same.refl _)
  · exact p.elim
/-- x, y = a, b -/
def sPar (i j : Nat) (os : List Opd) : SX := fun ρ => Sr.of (evs os ρ) fun as ρ1 => match vals? as with
  | some [d, d2] => if notBor ρ1 i = true ∧ notBor ρ1 j = true then .nx ((ρ1.set i (.val d)).set j (.val d2)) else .bad
  | _ => .bad
theorem ds_par {i j : Nat} {x y : Str} {c d : Expr} {os : List Opd} {px py pt : Pos} {kt k2 pt2} (hN : X.N.Nodup) (ha : DA G X W [c, d] os) (hi : X.N[i]? = some x := by rfl) (hj : X.N[j]? = some y := by rfl) (hij : i ≠ j := by decide)
    (hx : X.env.scope.names.lookup x = some .local := by rfl) (hy : X.env.scope.names.lookup y = some .local := by rfl)
    (hw : swappedStores [.Tuple [.Name x px, .Name y py] kt pt] (.Tuple [c, d] k2 pt2) X.env = pure (some [x, y]) := by rfl) (hc : X.calm = true := by rfl)
    (hs : swapsWithSole [.Tuple [.Name x px, .Name y py] kt pt] (.Tuple [c, d] k2 pt2) pos.line X.env = pure false := by rfl) : DS G X W (.Assign [.Tuple [.Name x px, .Name y py] kt pt] (.Tuple [c, d] k2 pt2) pos) (sPar i j os) := by
  obtain ⟨t, p1, q1⟩ := ha
  refine ⟨_, ps_par (i := i) (j := j) hc hN hi hj hij hx hy p1 hw hs, fun F σ H Hf ρ En R p => q1 F σ H Hf ρ _ R ((PostS.of p).imp fun as H1 Hf1 ρ1 _ R1 s1 p vs rs => ?_)⟩
  split at p
  · rename_i d1 d2 hv
    cases rs.vals hv with
    | cons r1 t =>
      cases t with
      | cons r2 t =>
        cases t
        split at p
        · exact ⟨_, _, rfl, p _ _ _ ((R1.set i r1).set j r2) (Same.refl _)⟩
        · exact p.elim
  · exact p.elim
def sIf (g : BX) (f1 f2 : SX) : SX := fun ρ => Sr.of (g ρ) fun b ρ1 => if b = true then f1 ρ1 else f2 ρ1
theorem ds_if {c : Expr} {g : BX} (hc : DT G X W c g) (ha : DSs G X W b1 f1) (hb : DSs G X W b2 f2) : DS G X W (.If c b1 b2 pos) (sIf g f1 f2) := by
  obtain ⟨t, p0, q0⟩ := hc
  obtain ⟨t1, p1, q1⟩ := ha
  obtain ⟨t2, p2, q2⟩ := hb
  refine ⟨_, ps_if p0 p1 p2, fun F σ H Hf ρ En R p => q0 F σ H Hf ρ _ R ((PostS.of p).imp fun b H1 Hf1 ρ1 _ R1 s1 p => ?_)⟩
  by_cases hk : b = true
  · rw [if_pos hk] at p ⊢
    exact q1 F σ H1 Hf1 ρ1 _ R1 p
  · rw [if_neg hk] at p ⊢
    exact q2 F σ H1 Hf1 ρ1 _ R1 p
/-- a list of one's own is frozen first -/
def frz (i : Nat) (ρ : PEnv) : Option PEnv := match ρ[i]? with
  | some (.own (.lst ds)) => some (ρ.set i (.val (.lst ds)))
  | some (.val _) => some ρ
  | _ => none
def sFrz (i : Nat) (f : SX) : SX := fun ρ => match frz i ρ with
  | some ρ1 => f ρ1
  | none => .bad
theorem frz_ok {F : Fr} {σ : L2.St} {H Hf : Hp} {ρ ρ1 : PEnv} {i : Nat} (R : Rep G F σ H Hf ρ) (h : frz i ρ = some ρ1) : ∃ Hf', Same Hf Hf' ∧ Rep G F σ H Hf' ρ1 := by
  unfold frz at h
  split at h
  · rename_i ds e
    cases h
    exact R.freeze e
  · cases h; exact ⟨Hf, Same.refl _, R⟩
  · cases h
theorem ds_frz {i : Nat} (h : DS G X W st f) : DS G X W st (sFrz i f) := by
  obtain ⟨t, p1, q1⟩ := h
  refine ⟨t, p1, fun F σ H Hf ρ En R p => ?_⟩
  unfold sFrz at p
  split at p
  · rename_i ρ1 e
    obtain ⟨Hf', s, R'⟩ := frz_ok R e
    exact q1 F σ H Hf' ρ1 En R' (p.mono s)
  · exact p.elim
/-! ### changing a list of one's own -/
def putAt (i : Nat) (g : List D → Option (List D)) (ρ : PEnv) : Option PEnv := (ρ[i]?).bind fun c => (c.lst?).bind fun ds => (g ds).map fun es => ρ.set i (c.put (.lst es))
theorem put_ok {F : Fr} {σ : L2.St} {H Hf : Hp} {ρ ρ1 : PEnv} {i : Nat} {g : List D → Option (List D)} (R : Rep G F σ H Hf ρ) (h : putAt i g ρ = some ρ1) :
    ∃ p vs ds es, σ[i]? = some (some (.ref p)) ∧ H p = some (.lst vs) ∧ RpL G Hf vs ds ∧ g ds = some es ∧ ∀ ws, RpL G Hf ws es → Rep G F σ (upd H p (.lst ws)) Hf ρ1 := by
  unfold putAt at h
  obtain ⟨c, h1, h⟩ := Option.bind_eq_some_iff.mp h
  obtain ⟨ds, h2, h⟩ := Option.bind_eq_some_iff.mp h
  obtain ⟨es, h3, rfl⟩ := Option.map_eq_some_iff.mp h
  obtain ⟨p, m⟩ := (R.cell i c h1).mut (Cell.of_lst h2)
  obtain ⟨o0, hp, r0⟩ := m.ls
  obtain ⟨vs, rfl, r⟩ := r0.lst
  exact ⟨p, vs, ds, es, m.at_, hp, r, h3, fun ws rw => R.write (es := .lst es) (ws := .lst ws) h1 (Cell.of_lst h2) m.at_ rw⟩
def appG (d : D) (ds : List D) : Option (List D) := if ds.length < sizeLine then some (ds ++ [d]) else none
def sApp (i : Nat) (fe : EX) : SX := fun ρ => Sr.of (fe ρ) fun d ρ1 => match putAt i (appG d) ρ1 with
  | some ρ2 => .nx ρ2
  | none => .bad
theorem mut_at {F : Fr} {σ : L2.St} {H Hf : Hp} {ρ : PEnv} {i : Nat} (R : Rep G F σ H Hf ρ) (h : ((ρ[i]?).bind Cell.lst?).isSome = true) : ∃ p vs, σ[i]? = some (some (.ref p)) ∧ H p = some (.lst vs) := by
  obtain ⟨ds, h⟩ := Option.isSome_iff_exists.mp h
  obtain ⟨c, h1, h2⟩ := Option.bind_eq_some_iff.mp h
  obtain ⟨p, m⟩ := (R.cell i c h1).mut (Cell.of_lst h2)
  obtain ⟨o0, hp, r0⟩ := m.ls
  obtain ⟨vs, rfl, _⟩ := r0.lst
  exact ⟨p, vs, m.at_, hp⟩
def sMut (i : Nat) (f : SX) : SX := fun ρ => if ((ρ[i]?).bind Cell.lst?).isSome = true then f ρ else .bad
theorem ds_app {i : Nat} {x : Str} {p1 apos cpos : Pos} (h : DE G X W e fe) (hN : X.N[i]? = some x := by rfl) (hv : Vis X.env.scope x := by first | exact .inl rfl | exact .inr (.inl rfl) | exact .inr (.inr rfl)) (hd : (x == ("__debug__" : Str)) = false := by decide) (hcd : (x == ("__classdict__" : Str)) = false := by decide)
    (hs2 : swapsWith (.Call (.Attribute (.Name x p1) "append" apos) [e] [] cpos) none pos.line X.env = pure false := by rfl)
    (hbase : attributeBase (.Name x p1) "append" X.env (eval (.Name x p1) X.env) = eval (.Name x p1) X.env := by rfl)
    (hfew : ((backTo cpos (starEach [e] X.env)).all (fun x => !x.1) && (backToKw cpos (keywordEach [] X.env)).all (fun x => x.1.isSome)
      && decide ([e].length + ([] : List Keyword).length + (if ([] : List Keyword).isEmpty then 0 else 1) < 30)) = true := by rfl)
    (hline : (apos.endLine == cpos.line) = true := by rfl) (hs : starEach [e] X.env = (false, eval e X.env) :: starEach [] X.env := by rfl) (hplain : (backTo cpos (starEach [] X.env)).any (·.1) = false := by rfl) :
    DS G X W (.Expr (.Call (.Attribute (.Name x p1) "append" apos) [e] [] cpos) pos) (sMut i (sApp i fe)) := by
  obtain ⟨t, p1, q1⟩ := DE.elim h
  refine ⟨_, ps_expr (pe_bm PySem.F.plainAttrs_list PySem.F.slot_list_append PySem.F.type_list_append mt_append (pe_var (i := i) hN hv hd hcd) (pa_cons p1 pa_nil hs) hbase hfew hline hs hplain) hs2, fun F σ H Hf ρ En R p => ?_⟩
  unfold sMut at p
  split at p
  · rename_i hm
    obtain ⟨a, ws, h1, h2⟩ := mut_at R hm
    refine ⟨.ref a, h1, .inl ⟨rfl, ws, SqL.hp h2⟩, q1 F σ H Hf ρ _ R ((PostS.of p).imp fun d H1 Hf1 ρ1 _ R1 s1 p v r => ?_)⟩
    split at p
    · rename_i ρ2 e2
      obtain ⟨b, vs, ds, es, h3, h4, h5, h6, h7⟩ := put_ok R1 e2
      rw [h1] at h3
      cases h3
      unfold appG at h6
      obtain ⟨c, rfl⟩ := ite_some' h6
      exact ⟨a, vs, v, rfl, rfl, h4, by rw [h5.len]; exact c, p σ _ Hf1 (h7 _ (h5.app (.cons r .nil))) (Same.refl _)⟩
    · exact p.elim
  · exact p.elim
def setG (k : Int) (d : D) (ds : List D) : Option (List D) := (ixN ds.length k).map fun j => ds.set j d
/-- x[k] = v -/
def sPut (i : Nat) (fe fk : EX) : SX := fun ρ => Sr.of (fe ρ) fun d ρ1 => sMut i (fun ρ1 => Sr.of (fk ρ1) fun k ρ2 => match k with
  | .int k => (match putAt i (setG k d) ρ2 with
    | some ρ3 => .nx ρ3
    | none => .bad)
  | _ => .bad) ρ1
theorem ds_put {i : Nat} {x : Str} {k : Expr} {fk : EX} {p1 p2 : Pos} (h : DE G X W e fe) (hk : DE G X W k fk) (hN : X.N[i]? = some x := by rfl) (hv : Vis X.env.scope x := by first | exact .inl rfl | exact .inr (.inl rfl) | exact .inr (.inr rfl)) (hd : (x == ("__debug__" : Str)) = false := by decide) (hcd : (x == ("__classdict__" : Str)) = false := by decide)
    (ha : ∀ v, assign (.Subscript (.Name x p1) k p2) X.env v = (do
      let ov ← holding [v] (eval (.Name x p1) X.env)
      let iv ← holding [v, ov] (eval k X.env)
      standAt p2
      holding [v, ov, iv] (setItem ov iv v)
      release [v, ov, iv] []) := by intro _; rfl)
    (hs : swapsWithSole [.Subscript (.Name x p1) k p2] e pos.line X.env = pure false := by rfl) (hw : swappedStores [.Subscript (.Name x p1) k p2] e X.env = pure none := by rfl)
    (h1 : (assignEach [.Subscript (.Name x p1) k p2] X.env).map (·.2) = [assign (.Subscript (.Name x p1) k p2) X.env] := by rfl) : DS G X W (.Assign [.Subscript (.Name x p1) k p2] e pos) (sPut i fe fk) := by
  obtain ⟨t1, p1, q1⟩ := DE.elim h
  obtain ⟨t2, p2, q2⟩ := DE.elim hk
  refine ⟨_, ps_asg p1 (pg_sub (pe_var (i := i) hN hv hd hcd) p2 set_list ha) hs hw h1, fun F σ H Hf ρ En R p => q1 F σ H Hf ρ _ R ((PostS.of p).imp fun d H1 Hf1 ρ1 _ R1 s1 p v r => ?_)⟩
  unfold sMut at p
  split at p
  · rename_i hm
    obtain ⟨a, ws, h1, h2⟩ := mut_at R1 hm
    refine ⟨.ref a, h1, q2 F σ H1 Hf1 ρ1 _ R1 ((PostS.of p).imp fun kd H2 Hf2 ρ2 _ R2 s2 p u ru => ?_)⟩
    cases kd with
    | int k =>
      obtain rfl := rp_i ru
      change PostS G F W Hf2 En (match putAt i (setG k d) ρ2 with
        | some ρ3 => .nx ρ3
        | none => .bad) at p
      split at p
      · rename_i ρ3 e3
        obtain ⟨b, vs, ds, es, h3, h4, h5, h6, h7⟩ := put_ok R2 e3
        rw [h1] at h3
        cases h3
        obtain ⟨j, hj, rfl⟩ := Option.map_eq_some_iff.mp h6
        exact ⟨a, vs, k, j, rfl, rfl, h4, by rw [h5.len]; exact hj, p σ _ Hf2 (h7 _ (RpL.set (r.mono s2) j h5)) (Same.refl _)⟩
      · exact p.elim
    | _ => exact p.elim
  · exact p.elim
end
end Spk
namespace Spk
open PySem PySem.Spec PyProof.Rows L2
/-! ### what is walked -/
def WalkD (G : Gx) (J : It) (ds : List D) (Hf : Hp) : Prop := ∀ (F : Fr) (σ : L2.St) (H Hf' : Hp) (ρ : PEnv) (i : Nat), Rep G F σ H Hf' ρ → Same Hf Hf' →
  (i < ds.length → J.go i H) ∧ J.stop ds.length H ∧ ∀ x H2, i < ds.length → J.yld i H x H2 → ∃ Hf2 d, Rep G F σ H2 Hf2 ρ ∧ Same Hf' Hf2 ∧ ds[i]? = some d ∧ Rp G Hf2 x d
def DI (G : Gx) (X : Cx) (W : WX) (tg e : Expr) (it : PEnv → Rs (List D)) : Prop := ∃ wi, PI X tg e wi ∧ ∀ (F : Fr) (σ : L2.St) (H Hf : Hp) (ρ : PEnv) (R : It → Hp → Prop), Rep G F σ H Hf ρ →
  PostE G F W σ Hf (fun ds H' Hf' _ => ∀ J, WalkD G J ds Hf' → R J H') (it ρ) → wi σ H R
def seqD : D → Option (List D)
  | .lst ds => some ds
  | .tup ds => some ds
  | .scr ns => some (ns.map D.int)
  | _ => none
section
variable {G : Gx} {X : Cx} {W : WX} {e e2 tg : Expr} {es : List Expr} {pos p : Pos}
theorem pi_or {w1 w2 : TI} (h1 : PI X tg e w1) (h2 : PI X tg e w2) : PI X tg e (fun σ H R => w1 σ H R ∨ w2 σ H R) := by
  refine ⟨fun pins s σ H R I h => ?_⟩
  rcases h with h | h
  · exact h1.run pins s σ H R I h
  · exact h2.run pins s σ H R I h
def fSeq (f : EX) : PEnv → Rs (List D) := fun ρ => (f ρ).bind fun d ρ1 => Rs.lift (seqD d) ρ1
theorem walkD_at {J : It} {n : Nat} {Hf : Hp} {vs : List V} {ds : List D} {Gd : Hp → Prop} (w : Walk J n Gd (YAt vs)) (hn : n = ds.length) (r : RpL G Hf vs ds) (hg : ∀ F σ H Hf' ρ, Rep G F σ H Hf' ρ → Same Hf Hf' → Gd H) : WalkD G J ds Hf := by
  subst hn
  intro F σ H Hf' ρ i R s
  have g := hg F σ H Hf' ρ R s
  refine ⟨fun hi => w.goes i H hi g, w.stops H g, fun x H2 hi y => ?_⟩
  obtain ⟨rfl, hx⟩ := w.yields i H x H2 hi g y
  obtain ⟨d, h1, h2⟩ := r.get hx
  exact ⟨Hf', d, R, Same.refl _, h1, h2.mono s⟩
theorem di_seq {f : EX} (h : DE G X W e f) (hK : X.K = G.K := by rfl) : DI G X W tg e (fSeq f) := by
  obtain ⟨t, p1, q1⟩ := DE.elim h
  refine ⟨_, pi_or (pi_list p1) (pi_tup p1), fun F σ H Hf ρ R Rr p => ?_⟩
  have p := PostE.bind p
  cases hf : f ρ with
  | bad => rw [hf] at p; exact p.elim
  | exc C f' d ρ' =>
    rw [hf] at p
    exact .inl (q1 F σ H Hf ρ _ Rr (by rw [hf]; exact p))
  | ok d ρ' =>
    rw [hf] at p
    cases hd : seqD d with
    | none =>
      have pp : ∀ H' Hf', Rep G F σ H' Hf' ρ' → Same Hf Hf' → PostE G F W σ Hf' _ (Rs.lift (seqD d) ρ') := p
      rw [hd] at pp
      exact .inl (q1 F σ H Hf ρ _ Rr (by rw [hf]; exact fun H1 Hf1 R1 s1 v r => (pp H1 Hf1 R1 s1).elim))
    | some ds =>
      have pp : ∀ H' Hf', Rep G F σ H' Hf' ρ' → Same Hf Hf' → PostE G F W σ Hf' _ (Rs.lift (seqD d) ρ') := p
      rw [hd] at pp
      cases d <;> simp only [seqD] at hd <;> cases hd
      · refine .inl (q1 F σ H Hf ρ _ Rr ?_)
        rw [hf]
        intro H1 Hf1 R1 s1 v r
        cases r with
        | lst q rl =>
          refine ⟨_, rfl, ⟨_, SqL.hp (R1.sub _ _ q)⟩, pp H1 Hf1 R1 s1 H1 Hf1 R1 (Same.refl _) _ ?_⟩
          rw [hK]
          exact walkD_at walk_list rl.len rl fun F σ H Hf' ρ R s => SqL.hp (R.sub _ _ (s _ _ q))
      · refine .inr (q1 F σ H Hf ρ _ Rr ?_)
        rw [hf]
        intro H1 Hf1 R1 s1 v r
        obtain ⟨a, vs, rfl, q, rl⟩ := rp_t r
        refine ⟨_, rfl, ⟨_, hK ▸ sameT R1.sub q⟩, pp H1 Hf1 R1 s1 H1 Hf1 R1 (Same.refl _) _ ?_⟩
        rw [hK]
        exact walkD_at walk_tup rl.len rl fun F σ H Hf' ρ R s => sameT R.sub (sameT s q)
      · refine .inl (q1 F σ H Hf ρ _ Rr ?_)
        rw [hf]
        intro H1 Hf1 R1 s1 v r
        cases r with
        | scr q =>
          refine ⟨_, rfl, ⟨_, hK ▸ R1.sub.seq q⟩, pp H1 Hf1 R1 s1 H1 Hf1 R1 (Same.refl _) _ ?_⟩
          rw [hK]
          exact walkD_at walk_list (by simp) (RpL.ints _) fun F σ H Hf' ρ R s => R.sub.seq (s.seq q)
/-- range -/
def rngD (lo : Int) (n : Nat) : List D := (List.range n).map fun i : Nat => D.int (lo + (i : Int))
theorem walkD_rng {lo : Int} {n : Nat} {Hf : Hp} : WalkD G (Itr lo n) (rngD lo n) Hf := by
  intro F σ H Hf' ρ i R s
  have ln : (rngD lo n).length = n := by simp [rngD]
  rw [ln]
  refine ⟨fun hi => hi, Nat.le_refl _, fun x H2 hi y => ?_⟩
  obtain ⟨rfl, rfl⟩ := y
  exact ⟨Hf', .int (lo + (i : Int)), R, Same.refl _, by simp [rngD, hi], .int _⟩
def fRng1 (f : EX) : PEnv → Rs (List D) := fun ρ => (f ρ).bind fun d ρ1 => match d with
  | .int j => if -(2 ^ 62) ≤ j ∧ j < 2 ^ 62 then .ok (rngD 0 j.toNat) ρ1 else .bad
  | _ => .bad
theorem di_rng1 {f : EX} (h : DE G X W e f) (hg : Gl X "range") (hm : X.mg "range" = none) (hs : starEach [e] X.env = [(false, eval e X.env)] := by rfl) : DI G X W tg (.Call (.Name "range" p) [e] [] pos) (fRng1 f) := by
  obtain ⟨t, p1, q1⟩ := DE.elim h
  refine ⟨_, pi_range1 hg hm (pa_cons p1 pa_nil hs) hs, fun F σ H Hf ρ R Rr p => ?_⟩
  refine q1 F σ H Hf ρ _ Rr ((PostE.bind p).imp fun d H1 Hf1 ρ1 _ R1 s1 p v r => ?_)
  cases d with
  | int j =>
    obtain rfl := rp_i r
    change PostE G F W σ Hf1 _ (if -(2 ^ 62) ≤ j ∧ j < 2 ^ 62 then Rs.ok (rngD 0 j.toNat) ρ1 else Rs.bad) at p
    by_cases c : -(2 ^ 62) ≤ j ∧ j < 2 ^ 62
    · rw [if_pos c] at p
      exact ⟨j, rfl, c.1, c.2, p H1 Hf1 R1 (Same.refl _) _ walkD_rng⟩
    · rw [if_neg c] at p; exact p.elim
  | _ => exact p.elim
/-- pairs that are made anew at each turn -/
theorem walkD_pair {J : It} {n : Nat} {Hf : Hp} {fx fy : Nat → Option V} {ds : List D} {Gd : Hp → Prop} (w : Walk J n Gd (YPair fx fy)) (hn : n = ds.length) (hg : ∀ F σ H Hf' ρ, Rep G F σ H Hf' ρ → Same Hf Hf' → Gd H)
    (hp : ∀ i x y, fx i = some x → fy i = some y → ∃ d1 d2, ds[i]? = some (.tup [d1, d2]) ∧ Rp G Hf x d1 ∧ Rp G Hf y d2) : WalkD G J ds Hf := by
  subst hn
  intro F σ H Hf' ρ i R s
  have g := hg F σ H Hf' ρ R s
  refine ⟨fun hi => w.goes i H hi g, w.stops H g, fun x H2 hi y => ?_⟩
  obtain ⟨T, x1, x2, rfl, nT, rfl, h1, h2⟩ := w.yields i H x H2 hi g y
  obtain ⟨d1, d2, h3, r1, r2⟩ := hp i x1 x2 h1 h2
  obtain ⟨R', s', r'⟩ := R.laidT nT (.cons (r1.mono s) (.cons (r2.mono s) .nil))
  exact ⟨_, _, R', s', h3, r'⟩
def enuD (ds : List D) : List D := ds.zipIdx.map fun p => .tup [.int (p.2 : Nat), p.1]
def fEnu (f : EX) : PEnv → Rs (List D) := fun ρ => (f ρ).bind fun d ρ1 => Rs.lift ((seqD d).map enuD) ρ1
theorem enuD_len (ds : List D) : (enuD ds).length = ds.length := by simp [enuD]
theorem enuD_at {ds : List D} {i : Nat} {d : D} (h : ds[i]? = some d) : (enuD ds)[i]? = some (.tup [.int (i : Nat), d]) := by
  simp [enuD, List.getElem?_zipIdx, h]
/-- enumerate of a tuple -/
def iEnT (K : PySem.W.Frag) (ta : TA) : TI := fun σ H R => ta σ H fun vs H1 => ∃ a xs, vs = [.ref a] ∧ SqT K H1 a xs ∧ R (ItE K a) H1
theorem pi_enT {ta : TA} {tpos : Pos} {elts : List Expr} {kk : Nat} (hg : Gl X "enumerate") (hm : X.mg "enumerate" = none) (ha : PA X [e] ta) (hs : starEach [e] X.env = [(false, eval e X.env)] := by rfl) :
    PI X (.Tuple elts kk tpos) (.Call (.Name "enumerate" p) [e] [] pos) (iEnT X.K ta) := by
  refine ⟨fun pins s σ H R I h => Call_ (ld_blt I hg hm boot_enumerate (PyProof.Rows.callWith_type1 (thn (ha.run pos pins s σ H _ I h) fun us s1 hh => ?_) hs rfl))⟩
  obtain ⟨vs, H1, I1, r1, a, xs, rfl, hq, q⟩ := hh
  obtain ⟨u, rfl, ru⟩ := vals1 r1
  obtain rfl : u = Value.ref a := ru
  have fp : ∀ b ∈ [s1.heap.objs.size + 1, s1.heap.objs.size], FpOk X pins H1 b := fun b hb => by
    have hle : s1.heap.objs.size ≤ b := by rcases mem2 hb with rfl | rfl <;> omega
    exact I1.fpOk hle (I1.hok.fresh hle)
  obtain ⟨its, rv, p', hz⟩ := I1.tuple hq
  have hT : s1.heap.IsTuple a its.toArray := p'
  have hlt : a < s1.heap.objs.size := by obtain ⟨_, z, _⟩ := hT; exact Heap.lt_size z
  refine enumT_call hT fun g he hit hsz hk => wpAny_pyIter_enum he ?_
  exact ⟨s1.heap.objs.size + 1, [s1.heap.objs.size + 1, s1.heap.objs.size], _, _, H1, rfl, I1.kept (t' := s1.toks) hk, turnE a _ _ (Nat.ne_of_lt hlt) (Nat.ne_of_gt (Nat.lt_succ_of_lt hlt)), ⟨⟨.none, he⟩, hit, Nat.succ_ne_self _⟩, fp, q⟩
theorem di_enum {f : EX} {tpos : Pos} {elts : List Expr} {kk : Nat} (h : DE G X W e f) (hg : Gl X "enumerate") (hm : X.mg "enumerate" = none) (hK : X.K = G.K := by rfl) (hs : starEach [e] X.env = [(false, eval e X.env)] := by rfl) :
    DI G X W (.Tuple elts kk tpos) (.Call (.Name "enumerate" p) [e] [] pos) (fEnu f) := by
  obtain ⟨t, p1, q1⟩ := DE.elim h
  have pa := pa_cons p1 pa_nil hs
  refine ⟨_, pi_or (pi_enum hg hm pa hs) (pi_enT hg hm pa hs), fun F σ H Hf ρ R Rr p => ?_⟩
  have p := PostE.bind p
  cases hf : f ρ with
  | bad => rw [hf] at p; exact p.elim
  | exc C f' d ρ' =>
    rw [hf] at p
    exact .inl (q1 F σ H Hf ρ _ Rr (by rw [hf]; exact p))
  | ok d ρ' =>
    rw [hf] at p
    have pp : ∀ H' Hf', Rep G F σ H' Hf' ρ' → Same Hf Hf' → PostE G F W σ Hf' _ (Rs.lift ((seqD d).map enuD) ρ') := p
    cases hd : seqD d with
    | none =>
      rw [hd] at pp
      exact .inl (q1 F σ H Hf ρ _ Rr (by rw [hf]; exact fun H1 Hf1 R1 s1 v r => (pp H1 Hf1 R1 s1).elim))
    | some ds =>
      rw [hd] at pp
      have wk : ∀ {J : It} {Hf1 : Hp} {vs : List V} {Gd : Hp → Prop}, Walk J vs.length Gd (YPair (fun i => some (.int (i : Nat))) (fun i => vs[i]?)) → RpL G Hf1 vs ds → (∀ F σ H Hf' ρ, Rep G F σ H Hf' ρ → Same Hf1 Hf' → Gd H) → WalkD G J (enuD ds) Hf1 := fun w rl hg =>
        walkD_pair w (by rw [enuD_len, rl.len]) hg fun i x y h1 h2 => by
          cases h1
          obtain ⟨d, h3, r3⟩ := rl.get h2
          exact ⟨_, d, enuD_at h3, .int _, r3⟩
      cases d <;> simp only [seqD] at hd <;> cases hd
      · refine .inl (q1 F σ H Hf ρ _ Rr ?_)
        rw [hf]
        intro H1 Hf1 R1 s1 v r
        cases r with
        | lst q rl =>
          refine ⟨_, _, rfl, SqL.hp (R1.sub _ _ q), pp H1 Hf1 R1 s1 H1 Hf1 R1 (Same.refl _) _ ?_⟩
          rw [hK]
          exact wk walk_enum rl fun F σ H Hf' ρ R s => SqL.hp (R.sub _ _ (s _ _ q))
      · refine .inr (q1 F σ H Hf ρ _ Rr ?_)
        rw [hf]
        intro H1 Hf1 R1 s1 v r
        obtain ⟨a, vs, rfl, q, rl⟩ := rp_t r
        refine ⟨_, _, rfl, hK ▸ sameT R1.sub q, pp H1 Hf1 R1 s1 H1 Hf1 R1 (Same.refl _) _ ?_⟩
        rw [hK]
        exact wk walkE rl fun F σ H Hf' ρ R s => sameT R.sub (sameT s q)
      · refine .inl (q1 F σ H Hf ρ _ Rr ?_)
        rw [hf]
        intro H1 Hf1 R1 s1 v r
        cases r with
        | scr q =>
          refine ⟨_, _, rfl, hK ▸ R1.sub.seq q, pp H1 Hf1 R1 s1 H1 Hf1 R1 (Same.refl _) _ ?_⟩
          rw [hK]
          exact wk walk_enum (RpL.ints _) fun F σ H Hf' ρ R s => R.sub.seq (s.seq q)
/-! ### for -/
def loopD (g : TGf) (body : SX) : List D → PEnv → Sr
  | [], ρ => .nx ρ
  | d :: ds, ρ => match g d ρ with
    | none => .bad
    | some ρ1 => match body ρ1 with
      | .nx ρ2 => loopD g body ds ρ2
      | .ct ρ2 => loopD g body ds ρ2
      | .bk ρ2 => .nx ρ2
      | r => r
def sFor (it : PEnv → Rs (List D)) (g : TGf) (body : SX) : SX := fun ρ => Sr.of (it ρ) fun ds ρ1 => loopD g body ds ρ1
theorem ds_for {body : List Stmt} {idx : List Nat} {it : PEnv → Rs (List D)} {g : TGf} {f : SX} (hi : DI G X W tg e it) (hg : DG G X tg idx g) (hb : DSs G X W body f) (hp : PassesOwn (model X.prog X.w) X.A X.env X.xe) (hc : X.calm = true := by rfl)
    (hs : ∀ x, foldedSetIterable e X.env x = pure x := by intro _; rfl) : DS G X W (.For tg e body [] pos) (sFor it g f) := by
  obtain ⟨wi, p1, q1⟩ := hi
  obtain ⟨t2, p2, q2⟩ := hg
  obtain ⟨t3, p3, q3⟩ := hb
  refine ⟨_, ps_for hp hc p1 p2 p3 hs, fun F σ H Hf ρ En R p => ?_⟩
  refine q1 F σ H Hf ρ _ R ((PostS.of p).imp fun ds H1 Hf1 ρ1 _ R1 s1 p J w => ?_)
  refine ⟨fun i m σ H => m = ds.length - i ∧ i ≤ ds.length ∧ ∃ Hf' ρ', Same Hf1 Hf' ∧ Rep G F σ H Hf' ρ' ∧ PostS G F W Hf' En (loopD g f (ds.drop i) ρ'), ⟨_, rfl, Nat.zero_le _, Hf1, ρ1, Same.refl _, R1, p⟩, ?_⟩
  rintro i m σ2 H2 ⟨rfl, hi, Hf2, ρ2, s2, R2, p⟩
  obtain ⟨w1, w2, w3⟩ := w F σ2 H2 Hf2 ρ2 i R2 s2
  by_cases hlt : i < ds.length
  · refine .inr ⟨w1 hlt, fun σ H => i + 1 ≤ ds.length ∧ ∃ Hf' ρ', Same Hf1 Hf' ∧ Rep G F σ H Hf' ρ' ∧ PostS G F W Hf' En (loopD g f (ds.drop (i + 1)) ρ'), fun σ' H' h => ⟨ds.length - (i + 1), by omega, rfl, h⟩, fun x H3 y => ?_⟩
    obtain ⟨Hf3, d, R3, s3, hd, r⟩ := w3 x H3 hlt y
    have e1 : ds.drop i = d :: ds.drop (i + 1) := by
      rw [List.drop_eq_getElem_cons hlt]
      rw [List.getElem?_eq_getElem hlt] at hd
      rw [Option.some.inj hd]
    rw [e1] at p
    unfold loopD at p
    cases hgd : g d ρ2 with
    | none => rw [hgd] at p; exact p.elim
    | some ρ3 =>
      rw [hgd] at p
      refine q2 F σ2 H3 Hf3 ρ2 ρ3 x d _ R3 r hgd fun σ3 R4 _ => ?_
      refine q3 F σ3 H3 Hf3 ρ3 _ R4 ?_
      have p := p.mono s3
      change PostS G F W Hf3 En (match f ρ3 with
        | .nx ρ2 => loopD g f (ds.drop (i + 1)) ρ2
        | .ct ρ2 => loopD g f (ds.drop (i + 1)) ρ2
        | .bk ρ2 => .nx ρ2
        | r => r) at p
      cases hr : f ρ3 with
      | nx ρ4 => rw [hr] at p; exact fun σ5 H5 Hf5 R5 s5 => ⟨hlt, Hf5, ρ4, s2.trans (s3.trans s5), R5, p.mono s5⟩
      | ct ρ4 => rw [hr] at p; exact fun σ5 H5 Hf5 R5 s5 => ⟨hlt, Hf5, ρ4, s2.trans (s3.trans s5), R5, p.mono s5⟩
      | bk ρ4 => rw [hr] at p; exact p
      | rt d ρ4 => rw [hr] at p; exact p
      | rf d ρ4 => rw [hr] at p; exact p
      | exc C f' d ρ4 => rw [hr] at p; exact p
      | bad => rw [hr] at p; exact p
  · have e : i = ds.length := by omega
    subst e
    rw [List.drop_length] at p
    exact .inl ⟨w2, p σ2 H2 Hf2 R2 (Same.refl _)⟩
end
end Spk
namespace Spk
open PySem PySem.Spec PyProof.Rows L2
/-! ### comprehensions -/
def Rs.nx {α : Type} : Rs α → Rs α
  | .exc _ _ _ _ => .bad
  | r => r
@[simp] theorem Rs.nx_ok {α : Type} {a : α} {ρ : PEnv} : (Rs.ok a ρ).nx = .ok a ρ := rfl
@[simp] theorem Rs.nx_bad {α : Type} : (Rs.bad : Rs α).nx = .bad := rfl
def wipeE (ρ : PEnv) : List Nat → PEnv
  | [] => ρ
  | v :: vs => (wipeE ρ vs).set v .no
/-- the names of the comprehension get back what they had outside -/
def backE (ρ3 ρ : PEnv) : List Nat → PEnv
  | [] => ρ3
  | v :: vs => (backE ρ3 ρ vs).set v (ρ.getD v .no)
def noMut (ρ : PEnv) (vs : List Nat) : Bool := vs.all fun v => ((ρ.getD v .no).mu?).isNone
def lcD (vs : List Nat) (g : TGf) (c : BX) (f : EX) : List D → PEnv → Rs (List D)
  | [], ρ => .ok [] ρ
  | d :: ds, ρ => match g d (wipeE ρ vs) with
    | none => .bad
    | some ρ1 => (c ρ1).nx.bind fun b ρ2 => if b = true then (f ρ2).nx.bind fun y ρ3 => (lcD vs g c f ds (backE ρ3 ρ vs)).bind fun ys ρ4 => .ok (y :: ys) ρ4 else lcD vs g c f ds (backE ρ2 ρ vs)
def fLc (it : PEnv → Rs (List D)) (vs : List Nat) (g : TGf) (c : BX) (f : EX) : PEnv → Rs (List D) := fun ρ => (it ρ).bind fun ds ρ1 => if noMut ρ1 vs = true ∧ ds.length ≤ sizeLine then lcD vs g c f ds ρ1 else .bad
section
variable {G : Gx} {F : Fr} {σ σ2 : L2.St} {H Hf H' Hf' : Hp} {ρ ρ3 : PEnv}
theorem backE_len (ρ3 ρ : PEnv) : ∀ vs, (backE ρ3 ρ vs).length = ρ3.length
  | [] => rfl
  | v :: vs => by unfold backE; rw [List.length_set, backE_len ρ3 ρ vs]
theorem Rep.wipe (R : Rep G F σ H Hf ρ) : ∀ vs, Rep G F (L2.wipe σ vs) H Hf (wipeE ρ vs)
  | [] => R
  | v :: vs => (Rep.wipe R vs).drop v none
theorem backE_at {vs : List Nat} {j : Nat} {c : Cell} (h : (backE ρ3 ρ vs)[j]? = some c) : (j ∈ vs ∧ c = ρ.getD j .no) ∨ (j ∉ vs ∧ ρ3[j]? = some c) := by
  induction vs with
  | nil => exact .inr ⟨List.not_mem_nil, h⟩
  | cons v vs ih =>
    unfold backE at h
    rcases set_at h with ⟨rfl, rfl, _⟩ | ⟨ne, h⟩
    · exact .inl ⟨List.mem_cons_self, rfl⟩
    · rcases ih h with ⟨h1, h2⟩ | ⟨h1, h2⟩
      · exact .inl ⟨List.mem_cons_of_mem _ h1, h2⟩
      · exact .inr ⟨fun z => by rcases List.mem_cons.mp z with z | z; exact ne z.symm; exact h1 z, h2⟩
theorem wipe_out : ∀ {vs : List Nat} {j : Nat} {σ : L2.St}, j ∉ vs → (L2.wipe σ vs)[j]? = σ[j]?
  | [], _, _, _ => rfl
  | v :: vs, j, σ, h => by
    unfold L2.wipe
    rw [List.getElem?_set_ne (fun z : v = j => h (by rw [z]; exact List.mem_cons_self))]
    exact wipe_out fun z => h (List.mem_cons_of_mem _ z)
/-- behind a turn of a comprehension: the slots of the def as they were -/
theorem Rep.back (R : Rep G F σ H Hf ρ) (R2 : Rep G F σ2 H' Hf' ρ3) (s : Same Hf Hf') {vs : List Nat} (hw : L2.wipe σ2 vs = L2.wipe σ vs) (nm : noMut ρ vs = true) : Rep G F σ H' Hf' (backE ρ3 ρ vs) := by
  have ls : σ.length = σ2.length := by
    have := congrArg List.length hw
    rw [wipe_length, wipe_length] at this
    exact this.symm
  have at2 : ∀ j, j ∉ vs → σ2[j]? = σ[j]? := fun j h => by rw [← wipe_out (σ := σ2) h, hw, wipe_out h]
  have nml : ∀ j c ds, (backE ρ3 ρ vs)[j]? = some c → c.mu? = some ds → j ∉ vs ∧ ρ3[j]? = some c := fun j c ds e m => by
    rcases backE_at e with ⟨h1, h2⟩ | h
    · have := List.all_eq_true.mp nm j h1
      rw [← h2, m] at this
      cases this
    · exact h
  refine ⟨by rw [backE_len, ls]; exact R2.len, R2.sub, fun j c e => ?_, fun i j ci cj ds es p ei ej mi mj si sj => ?_, R2.prot, R2.tabs⟩
  · rcases backE_at e with ⟨h1, h2⟩ | ⟨h1, h2⟩
    · cases hc : ρ[j]? with
      | none =>
        have : c = .no := by rw [h2, List.getD_eq_getElem?_getD, hc]; rfl
        subst this; trivial
      | some c' =>
        have e' : c = c' := by rw [h2, List.getD_eq_getElem?_getD, hc]; rfl
        subst e'
        have k := R.cell j c hc
        have n := List.all_eq_true.mp nm j h1
        rw [List.getD_eq_getElem?_getD, hc] at n
        cases c with
        | no => trivial
        | val d => obtain ⟨v, h, r⟩ := k; exact ⟨v, h, r.mono s⟩
        | own ds => cases n
        | bor ds => cases n
        | exn C f d => obtain ⟨a, dd, v, h0, h1, h2, r⟩ := k; exact ⟨a, dd, v, h0, h1, s _ _ h2, r.mono s⟩
    · have k := R2.cell j c h2
      have mk : ∀ ds p, MutOk G F σ2 H' Hf' j ds p → MutOk G F σ H' Hf' j ds p := fun ds p m => ⟨by rw [← at2 j h1]; exact m.at_, m.nf, m.np, m.ls⟩
      cases c with
      | no => trivial
      | val d => obtain ⟨v, h, r⟩ := k; exact ⟨v, by rw [← at2 j h1]; exact h, r⟩
      | own ds => obtain ⟨p, m⟩ := k; exact ⟨p, mk _ _ m⟩
      | bor ds => exact mk _ _ k
      | exn C f d => obtain ⟨a, dd, v, h0, h3, h4, r⟩ := k; exact ⟨a, dd, v, h0, by rw [← at2 j h1]; exact h3, h4, r⟩
  · obtain ⟨n1, e1⟩ := nml i ci ds ei mi
    obtain ⟨n2, e2⟩ := nml j cj es ej mj
    exact R2.apart i j ci cj ds es p e1 e2 mi mj (by rw [at2 i n1]; exact si) (by rw [at2 j n2]; exact sj)
/-- one more thing is protected -/
theorem Rep.guard (R : Rep G F σ H Hf ρ) {q : Addr} {o : HO} (hq : H q = some o) (nf : Hf q = none) (nm : ∀ (j : Nat) (c : Cell) (es : Mu), ρ[j]? = some c → c.mu? = some es → σ[j]? ≠ some (some (.ref q))) (nl : ∀ ps, o ≠ .tbl ps := by intro _ z; cases z) : Rep G ⟨upd F.Pt q o, F.Bp⟩ σ H Hf ρ := by
  refine ⟨R.len, R.sub, fun i c e => ?_, R.apart, fun a u e => ?_, ⟨R.tabs.tb, fun a ps e => ?_, R.tabs.nf⟩⟩
  rotate_right
  · by_cases h : a = q
    · subst h
      change upd F.Pt a o a = some _ at e
      rw [upd_same] at e
      exact nl ps (Option.some.inj e)
    · change upd F.Pt q o a = some _ at e
      rw [upd_ne h] at e
      exact R.tabs.nt a ps e
  · have k := R.cell i c e
    have mk : ∀ ds p, c.mu? = some ds → MutOk G F σ H Hf i ds p → MutOk G ⟨upd F.Pt q o, F.Bp⟩ σ H Hf i ds p := fun ds p hl m => by
      refine ⟨m.at_, m.nf, ?_, m.ls⟩
      show upd F.Pt q o p = none
      rw [upd_ne (fun z : p = q => nm i c ds e hl (by rw [← z]; exact m.at_))]
      exact m.np
    cases c with
    | no => trivial
    | val d => exact k
    | own ds => obtain ⟨p, m⟩ := k; exact ⟨p, mk _ _ rfl m⟩
    | bor ds => exact mk _ _ rfl k
    | exn C f d => exact k
  · by_cases h : a = q
    · subst h
      change upd F.Pt a o a = some u at e
      rw [upd_same] at e
      cases e
      exact ⟨hq, nf⟩
    · change upd F.Pt q o a = some u at e
      rw [upd_ne h] at e
      exact R.prot a u e
theorem Rep.unguard {q : Addr} {o : HO} (hn : F.Pt q = none) (R : Rep G ⟨upd F.Pt q o, F.Bp⟩ σ H Hf ρ) : Rep G F σ H Hf ρ ∧ H q = some o ∧ Hf q = none ∧ ∀ (j : Nat) (c : Cell) (es : Mu), ρ[j]? = some c → c.mu? = some es → σ[j]? ≠ some (some (.ref q)) := by
  have ne : ∀ p, upd F.Pt q o p = none → p ≠ q ∧ F.Pt p = none := fun p h => by
    by_cases e : p = q
    · subst e; rw [upd_same] at h; cases h
    · rw [upd_ne e] at h; exact ⟨e, h⟩
  obtain ⟨h1, h2⟩ := R.prot q o upd_same
  refine ⟨⟨R.len, R.sub, fun i c e => ?_, R.apart, fun a u e => ?_, ⟨R.tabs.tb, fun a ps e => ?_, R.tabs.nf⟩⟩, h1, h2, fun j c es e1 e2 h => ?_⟩
  · have k := R.cell i c e
    have mk : ∀ ds p, MutOk G ⟨upd F.Pt q o, F.Bp⟩ σ H Hf i ds p → MutOk G F σ H Hf i ds p := fun ds p m => ⟨m.at_, m.nf, (ne p m.np).2, m.ls⟩
    cases c with
    | no => trivial
    | val d => exact k
    | own ds => obtain ⟨p, m⟩ := k; exact ⟨p, mk _ _ m⟩
    | bor ds => exact mk _ _ k
    | exn C f d => exact k
  · exact R.prot a u (by show upd F.Pt q o a = some u; rw [upd_ne (fun z => by rw [z, hn] at e; cases e)]; exact e)
  · exact R.tabs.nt a ps (by show upd F.Pt q o a = some _; rw [upd_ne (fun z => by rw [z, hn] at e; cases e)]; exact e)
  · obtain ⟨p, m⟩ := (R.cell j c e1).mut e2
    have := m.at_
    rw [h] at this
    cases this
    exact (ne q m.np).1 rfl
/-- the list at q changes, which is no one's yet -/
theorem Rep.poke (R : Rep G F σ H Hf ρ) {q : Addr} {o : HO} (nt : ∃ xs, H q = some (.lst xs)) (nf : Hf q = none) (np : F.Pt q = none) (nm : ∀ (j : Nat) (c : Cell) (es : Mu), ρ[j]? = some c → c.mu? = some es → σ[j]? ≠ some (some (.ref q))) : Rep G F σ (upd H q o) Hf ρ := by
  refine ⟨R.len, fun b u e => by rw [upd_ne (ne_of_none e nf)]; exact R.sub _ _ e, fun i c e => ?_, R.apart, fun a u e => ?_, R.tabs.lst nt.choose_spec⟩
  · have k := R.cell i c e
    have mk : ∀ ds p, c.mu? = some ds → MutOk G F σ H Hf i ds p → MutOk G F σ (upd H q o) Hf i ds p := fun ds p hl m => by
      obtain ⟨vs, h, r⟩ := m.ls
      exact ⟨m.at_, m.nf, m.np, vs, by rw [upd_ne (fun z : p = q => nm i c ds e hl (by rw [← z]; exact m.at_))]; exact h, r⟩
    cases c with
    | no => trivial
    | val d => exact k
    | own ds => obtain ⟨p, m⟩ := k; exact ⟨p, mk _ _ rfl m⟩
    | bor ds => exact mk _ _ rfl k
    | exn C f d => exact k
  · obtain ⟨h1, h2⟩ := R.prot a u e
    exact ⟨by rw [upd_ne (fun z => by rw [z, np] at e; cases e)]; exact h1, h2⟩
/-- the heap without it -/
def hid (H : Hp) (q : Addr) : Hp := fun a => if a = q then none else H a
theorem hid_same {H : Hp} {q : Addr} : hid H q q = none := if_pos rfl
theorem hid_ne {H : Hp} {q a : Addr} (h : a ≠ q) : hid H q a = H a := if_neg h
theorem upd_hid {H : Hp} {q : Addr} {o : HO} (h : H q = some o) : upd (hid H q) q o = H := by
  funext a
  by_cases e : a = q
  · subst e; rw [upd_same, h]
  · rw [upd_ne e, hid_ne e]
theorem TabsG.hid {G : Gx} {H : Hp} {p : Addr} {xs : List V} (t : TabsG G H) (hp : H p = some (.lst xs)) : TabsG G (hid H p) := fun z hz => by
  obtain ⟨ps, h1, h2, h3⟩ := t z hz
  have k : ∀ b u, H b = some u → (∀ xs, u ≠ .lst xs) → Spk.hid H p b = some u := fun b u e n => by
    rw [hid_ne (fun z => n xs (by rw [z, hp] at e; exact (Option.some.inj e).symm))]; exact e
  refine ⟨ps, k _ _ h1 (fun _ z => by cases z), h2, fun pos cv hc => ?_⟩
  obtain ⟨c, e1, e2⟩ := h3 pos cv hc
  exact ⟨c, e1, k _ _ e2 fun _ z => by unfold LamX.CodeO at z; cases z⟩
theorem Rep.hide (R : Rep G F σ H Hf ρ) {q : Addr} (nt : ∃ xs, H q = some (.lst xs)) (nf : Hf q = none) (np : F.Pt q = none) (nm : ∀ (j : Nat) (c : Cell) (es : Mu), ρ[j]? = some c → c.mu? = some es → σ[j]? ≠ some (some (.ref q))) : Rep G F σ (hid H q) Hf ρ := by
  refine ⟨R.len, fun b u e => by rw [hid_ne (ne_of_none e nf)]; exact R.sub _ _ e, fun i c e => ?_, R.apart, fun a u e => ?_, ⟨R.tabs.tb.hid nt.choose_spec, R.tabs.nt, R.tabs.nf⟩⟩
  · have k := R.cell i c e
    have mk : ∀ ds p, c.mu? = some ds → MutOk G F σ H Hf i ds p → MutOk G F σ (hid H q) Hf i ds p := fun ds p hl m => by
      obtain ⟨vs, h, r⟩ := m.ls
      exact ⟨m.at_, m.nf, m.np, vs, by rw [hid_ne (fun z : p = q => nm i c ds e hl (by rw [← z]; exact m.at_))]; exact h, r⟩
    cases c with
    | no => trivial
    | val d => exact k
    | own ds => obtain ⟨p, m⟩ := k; exact ⟨p, mk _ _ rfl m⟩
    | bor ds => exact mk _ _ rfl k
    | exn C f d => exact k
  · obtain ⟨h1, h2⟩ := R.prot a u e
    exact ⟨by rw [hid_ne (fun z => by rw [z, np] at e; cases e)]; exact h1, h2⟩
theorem Rep.newFree (R : Rep G F σ H Hf ρ) {q : Addr} (nq : H q = none) : Hf q = none ∧ F.Pt q = none ∧ ∀ (j : Nat) (c : Cell) (es : Mu), ρ[j]? = some c → c.mu? = some es → σ[j]? ≠ some (some (.ref q)) := by
  refine ⟨R.nf nq, ?_, fun j c es e1 e2 h => ?_⟩
  · cases h : F.Pt q with
    | none => rfl
    | some o => have := (R.prot q o h).1; rw [nq] at this; cases this
  · obtain ⟨p, m⟩ := (R.cell j c e1).mut e2
    have := m.at_
    rw [h] at this
    cases this
    exact m.ne nq rfl
end
abbrev W0 : WX := fun _ _ _ _ => False
theorem PostE.nx {α : Type} {G : Gx} {F : Fr} {W W' : WX} {σ : L2.St} {Hf : Hp} {Q : α → Hp → Hp → PEnv → Prop} {r : Rs α} (h : PostE G F W σ Hf Q r.nx) : PostE G F W' σ Hf Q r := by
  cases r with
  | ok a ρ => exact h
  | exc C f d ρ => exact h.elim
  | bad => exact h
def DTs (G : Gx) (X : Cx) (W : WX) (ifs : List Expr) (f : BX) : Prop := ∃ t, PTs X ifs t ∧ ∀ (F : Fr) (σ : L2.St) (H Hf : Hp) (ρ : PEnv) (Q : Bool → Hp → Prop), Rep G F σ H Hf ρ →
  PostE G F W σ Hf (fun b H' _ _ => Q b H') (f ρ) → t σ H Q
section
variable {G : Gx} {X : Cx} {W : WX} {elt tg iter c : Expr} {ifs : List Expr} {pos : Pos}
def bYes : BX := fun ρ => .ok true ρ
theorem dts_nil : DTs G X W [] bYes := ⟨_, pts_nil, fun F σ H Hf ρ Q R p => p H Hf R (Same.refl _)⟩
/-! the readings of the judgements, whatever the context -/
def tDE (G : Gx) (W : WX) (f : EX) : TE := fun σ H Q => ∃ (F : Fr) (Hf : Hp) (ρ : PEnv), Rep G F σ H Hf ρ ∧ PostE G F W σ Hf (fun d H' Hf' _ => ∀ v, Rp G Hf' v d → Q v H') (f ρ)
theorem DO.pe {f : EX} (h : DE G X W elt f) : PE X elt (tDE G W f) := by
  obtain ⟨t, p, q⟩ := DE.elim h
  exact ⟨fun pins s σ H Q I ⟨F, Hf, ρ, R, z⟩ => p.run pins s σ H Q I (q F σ H Hf ρ Q R z)⟩
def tDT (G : Gx) (W : WX) (f : BX) : TT := fun σ H Q => ∃ (F : Fr) (Hf : Hp) (ρ : PEnv), Rep G F σ H Hf ρ ∧ PostE G F W σ Hf (fun b H' _ _ => Q b H') (f ρ)
theorem DTs.pts {f : BX} (h : DTs G X W ifs f) : PTs X ifs (tDT G W f) := by
  obtain ⟨t, p, q⟩ := h
  exact ⟨fun pins s σ H Q I ⟨F, Hf, ρ, R, z⟩ => p.run pins s σ H Q I (q F σ H Hf ρ Q R z)⟩
def tDG (G : Gx) (idx : List Nat) (g : TGf) : TG := fun v σ H Q => ∃ (F : Fr) (Hf : Hp) (ρ ρ' : PEnv) (d : D), Rep G F σ H Hf ρ ∧ Rp G Hf v d ∧ g d ρ = some ρ' ∧
  ∀ σ', Rep G F σ' H Hf ρ' → (∀ vs, (∀ i ∈ idx, i ∈ vs) → wipe σ' vs = wipe σ vs) → Q σ' H
theorem DG.pg {idx : List Nat} {g : TGf} (h : DG G X tg idx g) : PG X tg (tDG G idx g) := by
  obtain ⟨t, p, q⟩ := h
  exact ⟨fun pins s σ H v u Q I r ⟨F, Hf, ρ, ρ', d, R, rp, e, z⟩ => p.run pins s σ H v u Q I r (q F σ H Hf ρ ρ' v d Q R rp e z)⟩
/-- what is wanted of a new list -/
abbrev Qnew (G : Gx) (Q : VK) : List D → Hp → Hp → PEnv → Prop := fun ds H' Hf' _ => ∀ (p : Addr) (vs : List V), H' p = none → RpL G Hf' vs ds → Q (.ref p) (upd H' p (.lst vs))
theorem lc_read {own : List (Str × Nat)} {idx : List Nat} {it : PEnv → Rs (List D)} {g : TGf} {cb : BX} {fe : EX} {wi : TI} (q1 : ∀ (F : Fr) (σ : L2.St) (H Hf : Hp) (ρ : PEnv) (R : It → Hp → Prop), Rep G F σ H Hf ρ →
    PostE G F W σ Hf (fun ds H' Hf' _ => ∀ J, WalkD G J ds Hf' → R J H') (it ρ) → wi σ H R) (hix : ∀ i ∈ idx, i ∈ own.map (·.2)) {F : Fr} {σ : L2.St} {H Hf : Hp} {ρ : PEnv} {Q : VK} (R : Rep G F σ H Hf ρ) (p : PostE G F W σ Hf (Qnew G Q) (fLc it (own.map (·.2)) g cb fe ρ)) :
    tLc wi (tDG G idx g) (tDT G W0 cb) (tDE G W0 fe) (own.map (·.2)) σ H Q := by
  generalize hvs : own.map (·.2) = vs at *
  refine q1 F σ H Hf ρ _ R ((PostE.bind p).imp fun ds H1 Hf1 ρ1 _ R1 s1 p J w Dn nD => ?_)
  by_cases hcnd : ¬ (noMut ρ1 vs = true ∧ ds.length ≤ sizeLine)
  · rw [if_neg hcnd] at p; exact p.elim
  have hcnd := Decidable.not_not.mp hcnd
  rw [if_pos hcnd] at p
  obtain ⟨nm, hsz⟩ := hcnd
  obtain ⟨nf0, np, _⟩ := R1.newFree nD
  let Pv : Nat → Hp → Prop := fun i H => ∃ (Hf' : Hp) (ρ' : PEnv) (av : List V) (ad : List D), Same Hf1 Hf' ∧ Rep G F σ H Hf' ρ' ∧ H Dn = some (.lst av) ∧ Hf' Dn = none ∧
    (∀ (j : Nat) (c : Cell) (es : Mu), ρ'[j]? = some c → c.mu? = some es → σ[j]? ≠ some (some (.ref Dn))) ∧ RpL G Hf' av ad ∧ ad.length ≤ i ∧ noMut ρ' vs = true ∧
    PostE G F W σ Hf' (fun ds H' Hf' _ => ∀ (p : Addr) (vs : List V), H' p = none → RpL G Hf' vs ds → Q (.ref p) (upd H' p (.lst vs))) ((lcD vs g cb fe (ds.drop i) ρ').bind fun ys ρ'' => .ok (ad ++ ys) ρ'')
  have h0 : Pv 0 (upd H1 Dn (.lst [])) := by
    refine ⟨Hf1, ρ1, [], [], Same.refl _, R1.side nD _, upd_same, nf0, (R1.newFree nD).2.2, .nil, Nat.le_refl _, nm, ?_⟩
    rw [List.drop_zero]
    have e : ((lcD vs g cb fe ds ρ1).bind fun ys ρ'' => Rs.ok ([] ++ ys) ρ'') = lcD vs g cb fe ds ρ1 := by
      cases lcD vs g cb fe ds ρ1 <;> rfl
    rw [e]
    exact p
  refine ⟨fun i m H => m = ds.length - i ∧ i ≤ ds.length ∧ Pv i H, ⟨_, rfl, Nat.zero_le _, h0⟩, ?_⟩
  rintro i m H2 ⟨rfl, hi, Hf2, ρ2, av, ad, s2, R2, hD, nfD, nmD, ra, la, nm2, p⟩
  obtain ⟨w1, w2, w3⟩ := w F σ H2 Hf2 ρ2 i R2 s2
  by_cases hlt : i < ds.length
  · refine .inr ⟨w1 hlt, fun H => i + 1 ≤ ds.length ∧ Pv (i + 1) H, fun H' h => ⟨ds.length - (i + 1), by omega, rfl, h⟩, fun x H3 y => ?_⟩
    have Rg := R2.guard hD nfD nmD
    obtain ⟨_, _, w3⟩ := w _ σ H2 Hf2 ρ2 i Rg s2
    obtain ⟨Hf3, d, R3, s3, hd, r⟩ := w3 x H3 hlt y
    have e1 : ds.drop i = d :: ds.drop (i + 1) := by
      rw [List.drop_eq_getElem_cons hlt]
      rw [List.getElem?_eq_getElem hlt] at hd
      rw [Option.some.inj hd]
    rw [e1] at p
    have p := p.mono s3
    obtain ⟨R3u, _, _, _⟩ := R3.unguard np
    unfold lcD at p
    cases hgd : g d (wipeE ρ2 vs) with
    | none => rw [hgd] at p; exact p.elim
    | some ρ3 =>
      rw [hgd] at p
      refine ⟨_, Hf3, wipeE ρ2 vs, ρ3, d, R3.wipe vs, r, hgd, fun σ3 R4 hw => ⟨(hw vs hix).trans (by
        have ww : ∀ us : List Nat, (∀ u ∈ us, u ∈ vs) → wipe (wipe σ us) vs = wipe σ vs := by
          intro us
          induction us with
          | nil => intro _; rfl
          | cons u us ih =>
            intro h
            show wipe ((wipe σ us).set u none) vs = _
            rw [wipe_set (h u List.mem_cons_self)]
            exact ih fun z hz => h z (List.mem_cons_of_mem _ hz)
        exact ww vs fun _ h => h), ?_⟩⟩
      have hw3 : wipe σ3 vs = wipe σ vs := (hw vs hix).trans (by
        have ww : ∀ us : List Nat, (∀ u ∈ us, u ∈ vs) → wipe (wipe σ us) vs = wipe σ vs := by
          intro us
          induction us with
          | nil => intro _; rfl
          | cons u us ih =>
            intro h
            show wipe ((wipe σ us).set u none) vs = _
            rw [wipe_set (h u List.mem_cons_self)]
            exact ih fun z hz => h z (List.mem_cons_of_mem _ hz)
        exact ww vs fun _ h => h)
      refine ⟨_, Hf3, ρ3, R4, ?_⟩
      have p : PostE G F W σ Hf3 (Qnew G Q) (((cb ρ3).nx.bind fun b ρ2' => if b = true then (fe ρ2').nx.bind fun y ρ3 => (lcD vs g cb fe (ds.drop (i + 1)) (backE ρ3 ρ2 vs)).bind fun ys ρ4 => .ok (y :: ys) ρ4 else lcD vs g cb fe (ds.drop (i + 1)) (backE ρ2' ρ2 vs)).bind fun ys ρ'' => .ok (ad ++ ys) ρ'') := p
      cases hcb : cb ρ3 with
      | exc C f' d' ρ4 => rw [hcb] at p; exact p.elim
      | bad => rw [hcb] at p; exact p.elim
      | ok b ρ4 =>
        rw [hcb] at p
        intro H5 Hf5 R5 s5
        obtain ⟨R5u, hD5, nf5, nm5⟩ := R5.unguard np
        have p := p.mono s5
        by_cases hb : b = true
        · rw [if_pos hb]
          refine ⟨_, Hf5, ρ4, R5, ?_⟩
          have p : PostE G F W σ Hf5 (Qnew G Q) (((fe ρ4).nx.bind fun y ρ3 => (lcD vs g cb fe (ds.drop (i + 1)) (backE ρ3 ρ2 vs)).bind fun ys ρ4 => .ok (y :: ys) ρ4).bind fun ys ρ'' => .ok (ad ++ ys) ρ'') := by rw [Rs.nx_ok, Rs.bind_ok, if_pos hb] at p; exact p
          cases hfe : fe ρ4 with
          | exc C f' d' ρ5 => rw [hfe] at p; exact p.elim
          | bad => rw [hfe] at p; exact p.elim
          | ok yd ρ5 =>
            rw [hfe] at p
            intro H6 Hf6 R6 s6 yv ry
            obtain ⟨R6u, hD6, nf6, nm6⟩ := R6.unguard np
            have p := p.mono s6
            have s26 : Same Hf2 Hf6 := s3.trans (s5.trans s6)
            have Rb := R2.back R6u s26 hw3 nm2
            refine ⟨av, hD6, by rw [ra.len]; omega, hlt, Hf6, backE ρ5 ρ2 vs, av ++ [yv], ad ++ [yd], s2.trans s26, ?_, upd_same, nf6, ?_, (ra.mono s26).app (.cons ry .nil), by rw [List.length_append, List.length_singleton]; omega, ?_, ?_⟩
            · refine Rb.poke ⟨_, hD6⟩ nf6 np fun j c es e1 e2 => ?_
              rcases backE_at e1 with ⟨h1, h2⟩ | ⟨h1, h2⟩
              · have := List.all_eq_true.mp nm2 j h1
                rw [← h2, e2] at this
                cases this
              · have := nm6 j c es h2 e2
                rw [← wipe_out (σ := σ) h1, ← hw3, wipe_out h1]
                exact this
            · intro j c es e1 e2
              rcases backE_at e1 with ⟨h1, h2⟩ | ⟨h1, h2⟩
              · have := List.all_eq_true.mp nm2 j h1
                rw [← h2, e2] at this
                cases this
              · have := nm6 j c es h2 e2
                rw [← wipe_out (σ := σ) h1, ← hw3, wipe_out h1]
                exact this
            · refine List.all_eq_true.mpr fun v hv => ?_
              have := List.all_eq_true.mp nm2 v hv
              cases hc' : (backE ρ5 ρ2 vs)[v]? with
              | none => rw [List.getD_eq_getElem?_getD, hc']; rfl
              | some c =>
                rcases backE_at hc' with ⟨_, h2⟩ | ⟨h1, _⟩
                · rw [List.getD_eq_getElem?_getD, hc']; show (c.mu?).isNone = true; rw [h2]; exact this
                · exact absurd hv h1
            · have e2 : (((Rs.ok yd ρ5).nx.bind fun y ρ3 => (lcD vs g cb fe (ds.drop (i + 1)) (backE ρ3 ρ2 vs)).bind fun ys ρ4 => .ok (y :: ys) ρ4).bind fun ys ρ'' => Rs.ok (ad ++ ys) ρ'') = ((lcD vs g cb fe (ds.drop (i + 1)) (backE ρ5 ρ2 vs)).bind fun ys ρ'' => Rs.ok (ad ++ [yd] ++ ys) ρ'') := by
                rw [Rs.nx_ok, Rs.bind_ok]
                cases lcD vs g cb fe (ds.drop (i + 1)) (backE ρ5 ρ2 vs) with
                | ok ys ρ6 => show Rs.ok (ad ++ yd :: ys) ρ6 = Rs.ok (ad ++ [yd] ++ ys) ρ6; rw [List.append_assoc]; rfl
                | exc _ _ _ _ => rfl
                | bad => rfl
              rw [e2] at p
              exact p
        · rw [if_neg hb]
          have p : PostE G F W σ Hf5 (Qnew G Q) ((lcD vs g cb fe (ds.drop (i + 1)) (backE ρ4 ρ2 vs)).bind fun ys ρ'' => .ok (ad ++ ys) ρ'') := by rw [Rs.nx_ok, Rs.bind_ok, if_neg hb] at p; exact p
          have s25 : Same Hf2 Hf5 := s3.trans s5
          have Rb := R2.back R5u s25 hw3 nm2
          refine ⟨hlt, Hf5, backE ρ4 ρ2 vs, av, ad, s2.trans s25, Rb, hD5, nf5, ?_, ra.mono s25, by omega, ?_, p⟩
          · intro j c es e1 e2
            rcases backE_at e1 with ⟨h1, h2⟩ | ⟨h1, h2⟩
            · have := List.all_eq_true.mp nm2 j h1
              rw [← h2, e2] at this
              cases this
            · have := nm5 j c es h2 e2
              rw [← wipe_out (σ := σ) h1, ← hw3, wipe_out h1]
              exact this
          · refine List.all_eq_true.mpr fun v hv => ?_
            have := List.all_eq_true.mp nm2 v hv
            cases hc' : (backE ρ4 ρ2 vs)[v]? with
            | none => rw [List.getD_eq_getElem?_getD, hc']; rfl
            | some c =>
              rcases backE_at hc' with ⟨_, h2⟩ | ⟨h1, _⟩
              · rw [List.getD_eq_getElem?_getD, hc']; show (c.mu?).isNone = true; rw [h2]; exact this
              · exact absurd hv h1
  · have e : i = ds.length := by omega
    subst e
    refine .inl ⟨w2, ?_⟩
    rw [List.drop_length] at p
    have p : ∀ H' Hf', Rep G F σ H' Hf' ρ2 → Same Hf2 Hf' → ∀ (p : Addr) (vs : List V), H' p = none → RpL G Hf' vs (ad ++ []) → Q (.ref p) (upd H' p (.lst vs)) := p
    rw [List.append_nil] at p
    have q := p (hid H2 Dn) Hf2 (R2.hide ⟨_, hD⟩ nfD np nmD) (Same.refl _) Dn av hid_same ra
    rw [upd_hid hD] at q
    exact q
theorem df_lc {scope : Scope} {own : List (Str × Nat)} {idx : List Nat} {it : PEnv → Rs (List D)} {g : TGf} {cb : BX} {fe : EX} (hi : DI G X W tg iter it) (ok : BlkOk X.N X.env.scope scope own)
    (hg : ∀ (s : Shared) (H : Hp) (C : Addr) (cl : List (Str × Addr)) (fp : List Addr), DG G (X.blk s H scope (compEnvC scope cl C X.env) fp) tg idx g)
    (ht : ∀ (s : Shared) (H : Hp) (C : Addr) (cl : List (Str × Addr)) (fp : List Addr), DTs G (X.blk s H scope (compEnvC scope cl C X.env) fp) W0 ifs cb)
    (he : ∀ (s : Shared) (H : Hp) (C : Addr) (cl : List (Str × Addr)) (fp : List Addr), DE G (X.blk s H scope (compEnvC scope cl C X.env) fp) W0 elt fe) (hN : X.N.Nodup) (hix : ∀ i ∈ idx, i ∈ own.map (·.2) := by decide) (hc : X.calm = true := by rfl) (hs : ∀ x, foldedSetIterable iter X.env x = pure x := by intro _; rfl) :
    DF G X W (.ListComp elt [⟨tg, iter, ifs, 0⟩] scope pos) (fLc it (own.map (·.2)) g cb fe) := by
  obtain ⟨wi, p1, q1⟩ := hi
  exact ⟨_, pe_lc hc hN p1 ok (fun s H C cl fp => (hg s H C cl fp).pg) (fun s H C cl fp => (ht s H C cl fp).pts) (fun s H C cl fp => DO.pe (he s H C cl fp)) hs, fun F σ H Hf ρ Q R p => lc_read q1 hix R p⟩
end
end Spk
namespace Spk
open PySem PySem.Spec PyProof.Rows L2
/-! ### what a def promises -/
def spQ {α : Type} (G : Gx) (n : Nat) (Qr : VK → α → Hp → Hp → PEnv → Prop) (fn : List Cell → Rs α) : Sp := fun vs H Q E => ∃ (F : Fr) (Hf : Hp) (cs : List Cell), vs.length = n ∧ Rep G F (vs.map some) H Hf cs ∧
  PostE G F (fun c d _ H' => E c d H') (vs.map some) Hf (Qr Q) (fn cs)
/-- frozen data is given back -/
abbrev Qdat (G : Gx) (Q : VK) : D → Hp → Hp → PEnv → Prop := fun d H' Hf' _ => ∀ v, Rp G Hf' v d → Q v H'
abbrev spD (G : Gx) (n : Nat) (fn : List Cell → Rs D) : Sp := spQ G n (Qdat G) fn
/-- a new list is given back -/
abbrev spF (G : Gx) (n : Nat) (fn : List Cell → Rs (List D)) : Sp := spQ G n (Qnew G) fn
theorem spQ_len {α : Type} {G : Gx} {n : Nat} {Qr : VK → α → Hp → Hp → PEnv → Prop} {fn : List Cell → Rs α} {ps : List Str} (h : n = ps.length) : ∀ vs H Q E, spQ G n Qr fn vs H Q E → vs.length = ps.length := fun vs H Q E ⟨_, _, _, l, _⟩ => l.trans h
/-- the parameters' cells behind the body: a list that was lent has what stands there now -/
def finC : List Cell → PEnv → Option (List Cell)
  | [], _ => some []
  | .bor _ :: cs, .bor ds :: ρ => (finC cs ρ).map (.bor ds :: ·)
  | .val d :: cs, _ :: ρ => (finC cs ρ).map (.val d :: ·)
  | _, _ => none
/-- a def by its body: m slots -/
def fnB (m : Nat) (f : SX) : List Cell → Rs D := fun cs => match f (cs ++ List.replicate (m - cs.length) .no) with
  | .nx ρ => (match finC cs ρ with
    | some es => .ok .non es
    | none => .bad)
  | .rt d ρ => (match finC cs ρ with
    | some es => .ok d es
    | none => .bad)
  | .exc C x d ρ => (match finC cs ρ with
    | some es => .exc C x d es
    | none => .bad)
  | _ => .bad
/-- a def that gives back new lists alone -/
def fnBF (m : Nat) (f : SX) : List Cell → Rs (List D) := fun cs => match f (cs ++ List.replicate (m - cs.length) .no) with
  | .rf ds ρ => (match finC cs ρ with
    | some es => .ok ds es
    | none => .bad)
  | .exc C x d ρ => (match finC cs ρ with
    | some es => .exc C x d es
    | none => .bad)
  | _ => .bad
section
variable {G : Gx} {F : Fr} {σ : L2.St} {H Hf H' Hf' : Hp} {ρ ρ' : PEnv} {cs es : List Cell} {vs : List V}
theorem finC_at : ∀ {cs : List Cell} {ρ : PEnv} {es : List Cell}, finC cs ρ = some es → es.length = cs.length ∧ ∀ (i : Nat) (c : Cell), es[i]? = some c → (∃ d, c = .val d ∧ cs[i]? = some c) ∨ (∃ (ds es : Mu), c = .bor ds ∧ cs[i]? = some (.bor es) ∧ ρ[i]? = some c)
  | [], _, _, h => by cases h; exact ⟨rfl, fun i c e => by simp at e⟩
  | .bor bs :: cs, .bor ds :: ρ, es, h => by
    obtain ⟨es', h1, rfl⟩ := Option.map_eq_some_iff.mp (show (finC cs ρ).map _ = _ from h)
    obtain ⟨l, k⟩ := finC_at h1
    refine ⟨by simp [l], fun i c e => ?_⟩
    cases i with
    | zero => obtain rfl := Option.some.inj (by simpa using e); exact .inr ⟨ds, bs, rfl, rfl, rfl⟩
    | succ i => simpa using k i c (by simpa using e)
  | .val d :: cs, _ :: ρ, es, h => by
    obtain ⟨es', h1, rfl⟩ := Option.map_eq_some_iff.mp (show (finC cs ρ).map _ = _ from h)
    obtain ⟨l, k⟩ := finC_at h1
    refine ⟨by simp [l], fun i c e => ?_⟩
    cases i with
    | zero => obtain rfl := Option.some.inj (by simpa using e); exact .inl ⟨d, rfl, rfl⟩
    | succ i => simpa using k i c (by simpa using e)
  | .no :: _, _, _, h => by simp [finC] at h
  | .exn _ _ _ :: _, _, _, h => by simp [finC] at h
  | .own _ :: _, _, _, h => by simp [finC] at h
  | .bor _ :: _, [], _, h => by simp [finC] at h
  | .bor _ :: _, .no :: _, _, h => by simp [finC] at h
  | .bor _ :: _, .val _ :: _, _, h => by simp [finC] at h
  | .bor _ :: _, .own _ :: _, _, h => by simp [finC] at h
  | .bor _ :: _, .exn _ _ _ :: _, _, h => by simp [finC] at h
  | .val _ :: _, [], _, h => by simp [finC] at h
theorem Rep.fin (R : Rep G F (vs.map some) H Hf cs) (R' : Rep G F σ H' Hf' ρ') (s : Same Hf Hf') (h : finC cs ρ' = some es) : Rep G F (vs.map some) H' Hf' es := by
  obtain ⟨l, k⟩ := finC_at h
  have bo : ∀ i ds, es[i]? = some (.bor ds) → MutOk G F (vs.map some) H' Hf' i ds (F.Bp i) := fun i ds e => by
    rcases k i _ e with ⟨d, z, _⟩ | ⟨d1, d2, z, h1, h2⟩
    · cases z
    · cases z
      have m1 : MutOk G F (vs.map some) H Hf i d2 (F.Bp i) := R.cell i _ h1
      have m2 : MutOk G F σ H' Hf' i ds (F.Bp i) := R'.cell i _ h2
      exact ⟨m1.at_, m2.nf, m2.np, m2.ls⟩
  refine ⟨R.len.trans l.symm, R'.sub, fun i c e => ?_, fun i j ci cj ds ds' p ei ej mi mj si sj => ?_, R'.prot, R'.tabs⟩
  · rcases k i c e with ⟨d, rfl, h1⟩ | ⟨ds, ds', rfl, h1, h2⟩
    · obtain ⟨v, h2, r⟩ := R.cell i _ h1
      exact ⟨v, h2, r.mono s⟩
    · exact bo i ds e
  · have old : ∀ (i : Nat) (c : Cell) (ds : Mu), es[i]? = some c → c.mu? = some ds → ∃ (c' : Cell) (ds' : Mu), cs[i]? = some c' ∧ c'.mu? = some ds' := fun i c ds e m => by
      rcases k i c e with ⟨d, rfl, h1⟩ | ⟨d1, d2, rfl, h1, h2⟩
      · cases m
      · exact ⟨_, _, h1, rfl⟩
    obtain ⟨c1, d1, a1, a2⟩ := old i ci ds ei mi
    obtain ⟨c2, d2, b1, b2⟩ := old j cj ds' ej mj
    exact R.apart i j c1 c2 d1 d2 p a1 b1 a2 b2 si sj
theorem Rep.pad (R : Rep G F σ H Hf ρ) (n : Nat) : Rep G F (σ ++ List.replicate n none) H Hf (ρ ++ List.replicate n .no) := by
  have low : ∀ {i : Nat} {c : Cell}, (ρ ++ List.replicate n Cell.no)[i]? = some c → (i < ρ.length ∧ ρ[i]? = some c) ∨ c = .no := fun {i c} e => by
    rw [List.getElem?_append] at e
    split at e
    · exact .inl ⟨by assumption, e⟩
    · rw [List.getElem?_replicate] at e
      split at e
      · exact .inr (Option.some.inj e).symm
      · cases e
  have sl : ∀ {i : Nat}, i < ρ.length → (σ ++ List.replicate n none)[i]? = σ[i]? := fun {i} h => List.getElem?_append_left (by rw [R.len]; exact h)
  refine ⟨by simp [R.len], R.sub, fun i c e => ?_, fun i j ci cj ds es p ei ej mi mj si sj => ?_, R.prot, R.tabs⟩
  · rcases low e with ⟨hl, e⟩ | rfl
    · have k := R.cell i c e
      have mk : ∀ ds p, MutOk G F σ H Hf i ds p → MutOk G F (σ ++ List.replicate n none) H Hf i ds p := fun ds p m => ⟨by rw [sl hl]; exact m.at_, m.nf, m.np, m.ls⟩
      cases c with
      | no => trivial
      | val d => obtain ⟨v, h, r⟩ := k; exact ⟨v, by rw [sl hl]; exact h, r⟩
      | own ds => obtain ⟨p, m⟩ := k; exact ⟨p, mk _ _ m⟩
      | bor ds => exact mk _ _ k
      | exn C f d => obtain ⟨a, dd, v, h0, h1, h2, r⟩ := k; exact ⟨a, dd, v, h0, by rw [sl hl]; exact h1, h2, r⟩
    · trivial
  · rcases low ei with ⟨h1, e1⟩ | rfl
    · rcases low ej with ⟨h2, e2⟩ | rfl
      · rw [sl h1] at si
        rw [sl h2] at sj
        exact R.apart i j ci cj ds es p e1 e2 mi mj si sj
      · cases mj
    · cases mi
theorem body_of {X : Cx} {W : WX} {body : List Stmt} {f : SX} {n m : Nat} {N : List Str} {Q : VK} {E : XK} (h : DSs G X W body f) (hN : N.length = m) (hW : ∀ c d σ H, E c d H → W c d σ H) (sp : spD G n (fnB m f) vs H Q E) :
    ∃ t, PSs X body t ∧ t { nx := fun _ H' => Q .non H', rt := Q } (L2.start N vs) H := by
  obtain ⟨t, p, q⟩ := h
  obtain ⟨F, Hf, cs, hl, R, po⟩ := sp
  refine ⟨t, p, ?_⟩
  have lc : vs.length = cs.length := by have := R.len; rwa [List.length_map] at this
  have es : L2.start N vs = vs.map some ++ List.replicate (m - cs.length) none := by
    unfold L2.start
    rw [hN, lc]
  rw [es]
  refine q F _ H Hf _ _ (R.pad _) ?_
  unfold fnB at po
  cases hf : f (cs ++ List.replicate (m - cs.length) .no) with
  | nx ρ =>
    rw [hf] at po
    cases hfi : finC cs ρ with
    | none => simp only [hfi] at po; exact po.elim
    | some es =>
      simp only [hfi] at po
      exact fun σ' H' Hf' R' s => po H' Hf' (R.fin R' s hfi) s .non .non
  | rt d ρ =>
    rw [hf] at po
    cases hfi : finC cs ρ with
    | none => simp only [hfi] at po; exact po.elim
    | some es =>
      simp only [hfi] at po
      exact fun v σ' H' Hf' R' s r => po H' Hf' (R.fin R' s hfi) s v r
  | exc C x d ρ =>
    rw [hf] at po
    cases hfi : finC cs ρ with
    | none => simp only [hfi] at po; exact po.elim
    | some es =>
      simp only [hfi] at po
      exact fun v dd σ' H' Hf' R' s r hd => hW _ _ _ _ (po v dd H' Hf' (R.fin R' s hfi) s r hd)
  | rf ds ρ => rw [hf] at po; exact po.elim
  | bk ρ => rw [hf] at po; exact po.elim
  | ct ρ => rw [hf] at po; exact po.elim
  | bad => rw [hf] at po; exact po.elim
theorem body_ofF {X : Cx} {W : WX} {body : List Stmt} {f : SX} {n m : Nat} {N : List Str} {Q : VK} {E : XK} (h : DSs G X W body f) (hN : N.length = m) (hW : ∀ c d σ H, E c d H → W c d σ H) (sp : spF G n (fnBF m f) vs H Q E) :
    ∃ t, PSs X body t ∧ t { nx := fun _ H' => Q .non H', rt := Q } (L2.start N vs) H := by
  obtain ⟨t, p, q⟩ := h
  obtain ⟨F, Hf, cs, hl, R, po⟩ := sp
  refine ⟨t, p, ?_⟩
  have lc : vs.length = cs.length := by have := R.len; rwa [List.length_map] at this
  have es : L2.start N vs = vs.map some ++ List.replicate (m - cs.length) none := by
    unfold L2.start
    rw [hN, lc]
  rw [es]
  refine q F _ H Hf _ _ (R.pad _) ?_
  unfold fnBF at po
  cases hf : f (cs ++ List.replicate (m - cs.length) .no) with
  | rf ds ρ =>
    rw [hf] at po
    cases hfi : finC cs ρ with
    | none => simp only [hfi] at po; exact po.elim
    | some es =>
      simp only [hfi] at po
      exact fun a ws σ' H' Hf' R' s na r => po H' Hf' (R.fin R' s hfi) s a ws na r
  | exc C x d ρ =>
    rw [hf] at po
    cases hfi : finC cs ρ with
    | none => simp only [hfi] at po; exact po.elim
    | some es =>
      simp only [hfi] at po
      exact fun v dd σ' H' Hf' R' s r hd => hW _ _ _ _ (po v dd H' Hf' (R.fin R' s hfi) s r hd)
  | nx ρ => rw [hf] at po; exact po.elim
  | rt d ρ => rw [hf] at po; exact po.elim
  | bk ρ => rw [hf] at po; exact po.elim
  | ct ρ => rw [hf] at po; exact po.elim
  | bad => rw [hf] at po; exact po.elim
/-- a def that lets nothing out -/
def fnN {α : Type} (fn : List Cell → Rs α) : List Cell → Rs α := fun cs => (fn cs).nx
theorem spQ_nx {α : Type} {n : Nat} {Qr : VK → α → Hp → Hp → PEnv → Prop} {fn : List Cell → Rs α} {Q : VK} {E : XK} (h : spQ G n Qr (fnN fn) vs H Q E) : spQ G n Qr fn vs H Q E0 := by
  obtain ⟨F, Hf, cs, hl, R, po⟩ := h
  exact ⟨F, Hf, cs, hl, R, PostE.nx po⟩
theorem body_ofN {X : Cx} {body : List Stmt} {f : SX} {n m : Nat} {N : List Str} {Q : VK} {E : XK} (h : DSs G X W0 body f) (hN : N.length = m) (sp : spD G n (fnN (fnB m f)) vs H Q E) :
    ∃ t, PSs X body t ∧ t { nx := fun _ H' => Q .non H', rt := Q } (L2.start N vs) H := body_of h hN (fun _ _ _ _ z => z) (spQ_nx sp)
theorem body_ofNF {X : Cx} {body : List Stmt} {f : SX} {n m : Nat} {N : List Str} {Q : VK} {E : XK} (h : DSs G X W0 body f) (hN : N.length = m) (sp : spF G n (fnN (fnBF m f)) vs H Q E) :
    ∃ t, PSs X body t ∧ t { nx := fun _ H' => Q .non H', rt := Q } (L2.start N vs) H := body_ofF h hN (fun _ _ _ _ z => z) (spQ_nx sp)
end
/-! ### a call -/
def Arg.cell (ρ : PEnv) : Arg → Option Cell
  | .val d => some (.val d)
  | .sl i => (ρ[i]?.bind Cell.mu?).map .bor
def cells (ρ : PEnv) : List Arg → Option (List Cell)
  | [] => some []
  | a :: as => (a.cell ρ).bind fun c => (cells ρ as).map (c :: ·)
def sls : List Arg → List Nat
  | [] => []
  | .val _ :: as => sls as
  | .sl i :: as => i :: sls as
/-- the lists that were lent have what the callee left -/
def wb : List Arg → List Cell → PEnv → Option PEnv
  | [], _, ρ => some ρ
  | .val _ :: as, _ :: cs, ρ => wb as cs ρ
  | .sl i :: as, .bor ds :: cs, ρ => (ρ[i]?).bind fun c => wb as cs (ρ.set i (c.put ds))
  | _, _, _ => none
def appF {α : Type} (n : Nat) (fn : List Cell → Rs α) (dfl : List D) (as : List Arg) (ρ : PEnv) : Rs α :=
  if as.length + dfl.length = n ∧ (sls as).Nodup then
    match cells ρ as with
    | none => .bad
    | some cs => match fn (cs ++ dfl.map .val) with
      | .ok d es => Rs.lift ((wb as es ρ).map fun ρ2 => (d, ρ2)) ρ |>.bind fun p _ => .ok p.1 p.2
      | .exc C f d es => (match wb as es ρ with
        | some ρ2 => .exc C f d ρ2
        | none => .bad)
      | .bad => .bad
  else .bad
section
variable {G : Gx} {F : Fr} {σ : L2.St} {H Hf H' Hf' : Hp} {ρ ρ2 : PEnv}
theorem ArgsOk.at_ : ∀ {vs : List V} {as : List Arg}, ArgsOk G σ Hf vs as → ∀ {k : Nat} {a : Arg}, as[k]? = some a → ∃ v, vs[k]? = some v ∧ ArgOk G σ Hf v a
  | _, _, .nil, _, _, e => by simp at e
  | _, _, .cons h t, 0, a, e => by obtain rfl := Option.some.inj (by simpa using e); exact ⟨_, rfl, h⟩
  | _, _, .cons h t, k + 1, a, e => by
    obtain ⟨v, h1, h2⟩ := ArgsOk.at_ t (k := k) (a := a) (by simpa using e)
    exact ⟨v, by simpa using h1, h2⟩
theorem ArgsOk.len : ∀ {vs : List V} {as : List Arg}, ArgsOk G σ Hf vs as → vs.length = as.length
  | _, _, .nil => rfl
  | _, _, .cons _ t => congrArg (· + 1) (ArgsOk.len t)
theorem cells_at : ∀ {as : List Arg} {cs : List Cell}, cells ρ as = some cs → cs.length = as.length ∧ ∀ (k : Nat) (c : Cell), cs[k]? = some c → (∃ d, c = .val d ∧ as[k]? = some (.val d)) ∨ (∃ i ds c', c = .bor ds ∧ as[k]? = some (.sl i) ∧ ρ[i]? = some c' ∧ c'.mu? = some ds)
  | [], _, h => by cases h; exact ⟨rfl, fun k c e => by simp at e⟩
  | a :: as, cs, h => by
    obtain ⟨c0, h1, h2⟩ := Option.bind_eq_some_iff.mp (show (a.cell ρ).bind _ = _ from h)
    obtain ⟨cs', h3, rfl⟩ := Option.map_eq_some_iff.mp h2
    obtain ⟨l, k⟩ := cells_at h3
    refine ⟨by simp [l], fun i c e => ?_⟩
    cases i with
    | zero =>
      obtain rfl := Option.some.inj (by simpa using e)
      cases a with
      | val d => cases h1; exact .inl ⟨d, rfl, rfl⟩
      | sl i =>
        obtain ⟨ds, h4, rfl⟩ := Option.map_eq_some_iff.mp (show (ρ[i]?.bind Cell.mu?).map Cell.bor = _ from h1)
        obtain ⟨c', h5, h6⟩ := Option.bind_eq_some_iff.mp h4
        exact .inr ⟨i, ds, c', rfl, rfl, h5, h6⟩
    | succ i => simpa using k i c (by simpa using e)
theorem sls_mem : ∀ {as : List Arg} {i : Nat}, i ∈ sls as ↔ ∃ k : Nat, as[k]? = some (.sl i)
  | [], i => by simp [sls]
  | .val d :: as, i => by
    rw [sls, sls_mem]
    constructor
    · rintro ⟨k, h⟩; exact ⟨k + 1, by simpa using h⟩
    · rintro ⟨k, h⟩
      cases k with
      | zero => simp at h
      | succ k => exact ⟨k, by simpa using h⟩
  | .sl j :: as, i => by
    rw [sls, List.mem_cons, sls_mem]
    constructor
    · rintro (rfl | ⟨k, h⟩)
      · exact ⟨0, rfl⟩
      · exact ⟨k + 1, by simpa using h⟩
    · rintro ⟨k, h⟩
      cases k with
      | zero => left; simpa using h.symm
      | succ k => exact .inr ⟨k, by simpa using h⟩
theorem sls_inj : ∀ {as : List Arg} {i k l : Nat}, (sls as).Nodup → as[k]? = some (.sl i) → as[l]? = some (.sl i) → k = l
  | [], _, _, _, _, h, _ => by simp at h
  | .val d :: as, i, k, l, nd, h1, h2 => by
    cases k with
    | zero => simp at h1
    | succ k =>
      cases l with
      | zero => simp at h2
      | succ l => exact congrArg (· + 1) (sls_inj (as := as) (i := i) nd (by simpa using h1) (by simpa using h2))
  | .sl j :: as, i, k, l, nd, h1, h2 => by
    have nd := List.nodup_cons.mp nd
    cases k with
    | zero =>
      cases l with
      | zero => rfl
      | succ l =>
        have e : j = i := by simpa using h1
        subst e
        exact absurd (sls_mem.mpr ⟨l, by simpa using h2⟩) nd.1
    | succ k =>
      cases l with
      | zero =>
        have e : j = i := by simpa using h2
        subst e
        exact absurd (sls_mem.mpr ⟨k, by simpa using h1⟩) nd.1
      | succ l => exact congrArg (· + 1) (sls_inj (as := as) (i := i) nd.2 (by simpa using h1) (by simpa using h2))
theorem wb_at : ∀ {as : List Arg} {es : List Cell} {ρ ρ2 : PEnv}, (sls as).Nodup → wb as es ρ = some ρ2 → ρ2.length = ρ.length ∧ ∀ (j : Nat) (c : Cell), ρ2[j]? = some c →
    (∃ (k : Nat) (c' : Cell) (ds : Mu), as[k]? = some (.sl j) ∧ es[k]? = some (.bor ds) ∧ ρ[j]? = some c' ∧ c = c'.put ds) ∨ (j ∉ sls as ∧ ρ[j]? = some c)
  | [], _, ρ, _, _, h => by cases h; exact ⟨rfl, fun j c e => .inr ⟨List.not_mem_nil, e⟩⟩
  | .val d :: as, [], _, _, _, h => by simp [wb] at h
  | .val d :: as, e0 :: es, ρ, ρ2, nd, h => by
    obtain ⟨l, k⟩ := wb_at (as := as) (es := es) (ρ := ρ) nd h
    refine ⟨l, fun j c e => ?_⟩
    rcases k j c e with ⟨k, c', ds, h1, h2, h3⟩ | h
    · exact .inl ⟨k + 1, c', ds, by simpa using h1, by simpa using h2, h3⟩
    · exact .inr h
  | .sl i :: as, [], _, _, _, h => by simp [wb] at h
  | .sl i :: as, .no :: es, _, _, _, h => by simp [wb] at h
  | .sl i :: as, .val _ :: es, _, _, _, h => by simp [wb] at h
  | .sl i :: as, .own _ :: es, _, _, _, h => by simp [wb] at h
  | .sl i :: as, .exn _ _ _ :: es, _, _, _, h => by simp [wb] at h
  | .sl i :: as, .bor ds :: es, ρ, ρ2, nd, h => by
    have nd := List.nodup_cons.mp nd
    obtain ⟨c0, h1, h2⟩ := Option.bind_eq_some_iff.mp (show (ρ[i]?).bind _ = _ from h)
    obtain ⟨l, k⟩ := wb_at (as := as) (es := es) nd.2 h2
    refine ⟨by rw [l, List.length_set], fun j c e => ?_⟩
    rcases k j c e with ⟨k, c', ds', h3, h4, h5, h6⟩ | ⟨h3, h4⟩
    · have ne : i ≠ j := fun z => nd.1 (z ▸ sls_mem.mpr ⟨k, h3⟩)
      rw [List.getElem?_set_ne ne] at h5
      exact .inl ⟨k + 1, c', ds', by simpa using h3, by simpa using h4, h5, h6⟩
    · rcases set_at h4 with ⟨rfl, rfl, _⟩ | ⟨ne, h5⟩
      · exact .inl ⟨0, c0, ds, rfl, rfl, h1, rfl⟩
      · exact .inr ⟨fun z => by rcases List.mem_cons.mp z with z | z; exact ne z.symm; exact h3 z, h5⟩
/-- the callee's frame -/
theorem call_in {vs dvs : List V} {as : List Arg} {cs : List Cell} {dfl : List D} (R : Rep G F σ H Hf ρ) (ra : ArgsOk G σ Hf vs as) (hc : cells ρ as = some cs) (nd : (sls as).Nodup) (rd : RpL G Hf dvs dfl) :
    ∃ F', Rep G F' ((vs ++ dvs).map some) H Hf (cs ++ dfl.map .val) ∧ ∀ {H' Hf' : Hp} {es : List Cell} {ρ2 : PEnv}, Rep G F' ((vs ++ dvs).map some) H' Hf' es → Same Hf Hf' → wb as es ρ = some ρ2 → Rep G F σ H' Hf' ρ2 := by
  classical
  obtain ⟨lc, hcs⟩ := cells_at hc
  let passed : Addr → Prop := fun p => ∃ k i : Nat, as[k]? = some (.sl i) ∧ vs[k]? = some (.ref p)
  let Pt' : Hp := fun a => if Hf a = none ∧ ¬ passed a ∧ (∀ ps, H a ≠ some (.tbl ps)) then H a else none
  let Bp' : Nat → Addr := fun k => match (vs ++ dvs)[k]? with
    | some (.ref a) => a
    | _ => 0
  have lv := ra.len
  -- what a lent list is
  have lent : ∀ k i : Nat, as[k]? = some (.sl i) → ∃ p c ds, vs[k]? = some (.ref p) ∧ ρ[i]? = some c ∧ c.mu? = some ds ∧ MutOk G F σ H Hf i ds p := fun k i hk => by
    have hlt : k < as.length := (List.getElem?_eq_some_iff.mp hk).1
    obtain ⟨c0, e0⟩ : ∃ c0, cs[k]? = some c0 := ⟨_, List.getElem?_eq_getElem (by omega)⟩
    rcases hcs k c0 e0 with ⟨d, _, h2⟩ | ⟨i', ds, c', _, h2, h3, h4⟩
    · rw [hk] at h2; cases h2
    · rw [hk] at h2; cases h2
      obtain ⟨p, m⟩ := (R.cell i c' h3).mut h4
      obtain ⟨v, h5, h6⟩ := ra.at_ hk
      have h6 : σ[i]? = some (some v) := h6
      rw [m.at_] at h6
      cases h6
      exact ⟨p, c', ds, h5, h3, h4, m⟩
  have bp : ∀ (k : Nat) (p : Addr), vs[k]? = some (.ref p) → Bp' k = p := fun k p h => by
    have hl : k < vs.length := (List.getElem?_eq_some_iff.mp h).1
    show (match (vs ++ dvs)[k]? with | some (.ref a) => a | _ => 0) = p
    rw [List.getElem?_append_left hl, h]
  have sv : ∀ (k : Nat) (v : V), vs[k]? = some v → ((vs ++ dvs).map some)[k]? = some (some v) := fun k v h => by
    have hl : k < vs.length := (List.getElem?_eq_some_iff.mp h).1
    rw [List.getElem?_map, List.getElem?_append_left hl, h]; rfl
  have npass : ∀ p, passed p → F.Pt p = none ∧ ∀ j cj es, ρ[j]? = some cj → cj.mu? = some es → σ[j]? = some (some (.ref p)) → j ∈ sls as := fun p ⟨k, i, h1, h2⟩ => by
    obtain ⟨p', c, ds, h3, h4, h5, m⟩ := lent k i h1
    rw [h2] at h3
    cases h3
    refine ⟨m.np, fun j cj es e1 e2 e3 => ?_⟩
    have := R.apart i j c cj ds es p h4 e1 h5 e2 m.at_ e3
    subst this
    exact sls_mem.mpr ⟨k, h1⟩
  refine ⟨⟨Pt', Bp'⟩, ⟨?_, R.sub, fun k c e => ?_, fun k l ck cl ds es p ek el mk ml sk sl' => ?_, fun a o e => ?_, ⟨R.tabs.tb, fun a ps e => ?_, R.tabs.nf⟩⟩, fun {H' Hf' es ρ2} R' s hw => ?_⟩
  · rw [List.length_map, List.length_append, List.length_append, List.length_map, lc, lv, rd.len]
  · rw [List.getElem?_append] at e
    split at e
    · rename_i hlt
      rcases hcs k c e with ⟨d, rfl, h2⟩ | ⟨i, ds, c', rfl, h2, h3, h4⟩
      · obtain ⟨v, h5, h6⟩ := ra.at_ h2
        exact ⟨v, sv k v h5, h6⟩
      · obtain ⟨p, c2, ds2, h5, h6, h7, m⟩ := lent k i h2
        rw [h3] at h6; cases h6
        rw [h4] at h7; cases h7
        show MutOk G ⟨Pt', Bp'⟩ _ H Hf k ds (Bp' k)
        rw [bp k p h5]
        refine ⟨sv k _ h5, m.nf, ?_, m.ls⟩
        show (if Hf p = none ∧ ¬ passed p ∧ (∀ ps, H p ≠ some (.tbl ps)) then H p else none) = none
        rw [if_neg (fun z => z.2.1 ⟨k, i, h2, h5⟩)]
    · rename_i hge
      rw [List.getElem?_map] at e
      obtain ⟨d, h1, rfl⟩ := Option.map_eq_some_iff.mp e
      obtain ⟨v, h2, r⟩ := rd.getD h1
      refine ⟨v, ?_, r⟩
      rw [List.getElem?_map, List.getElem?_append_right (by omega)]
      rw [show k - vs.length = k - cs.length by omega, h2]; rfl
  · have low : ∀ (k : Nat) (c : Cell) (ds : Mu), (cs ++ dfl.map Cell.val)[k]? = some c → c.mu? = some ds → ∃ i, as[k]? = some (.sl i) := fun k c ds e m => by
      rw [List.getElem?_append] at e
      split at e
      · rcases hcs k c e with ⟨d, rfl, _⟩ | ⟨i, _, _, _, h2, _⟩
        · cases m
        · exact ⟨i, h2⟩
      · rw [List.getElem?_map] at e
        obtain ⟨d, _, rfl⟩ := Option.map_eq_some_iff.mp e
        cases m
    obtain ⟨i, hi⟩ := low k ck ds ek mk
    obtain ⟨j, hj⟩ := low l cl es el ml
    obtain ⟨p1, c1, d1, a1, a2, a3, m1⟩ := lent k i hi
    obtain ⟨p2, c2, d2, b1, b2, b3, m2⟩ := lent l j hj
    rw [sv k _ a1] at sk
    rw [sv l _ b1] at sl'
    cases sk
    cases sl'
    have := R.apart i j c1 c2 d1 d2 _ a2 b2 a3 b3 m1.at_ m2.at_
    subst this
    exact sls_inj nd hi hj
  · change (if Hf a = none ∧ ¬ passed a ∧ (∀ ps, H a ≠ some (.tbl ps)) then H a else none) = some o at e
    by_cases hh : Hf a = none ∧ ¬ passed a ∧ (∀ ps, H a ≠ some (.tbl ps))
    · rw [if_pos hh] at e; exact ⟨e, hh.1⟩
    · rw [if_neg hh] at e; cases e
  · change (if Hf a = none ∧ ¬ passed a ∧ (∀ ps, H a ≠ some (.tbl ps)) then H a else none) = some (.tbl ps) at e
    by_cases hh : Hf a = none ∧ ¬ passed a ∧ (∀ ps, H a ≠ some (.tbl ps))
    · rw [if_pos hh] at e; exact hh.2.2 ps e
    · rw [if_neg hh] at e; cases e
  · obtain ⟨l2, hw2⟩ := wb_at nd hw
    have keep : ∀ p o, H p = some o → (∀ ps, o ≠ .tbl ps) → Hf p = none → ¬ passed p → H' p = some o ∧ Hf' p = none := fun p o h1 nt h2 h3 => R'.prot p o (by
      show (if Hf p = none ∧ ¬ passed p ∧ (∀ ps, H p ≠ some (.tbl ps)) then H p else none) = some o
      rw [if_pos ⟨h2, h3, fun ps z => nt ps (by rw [h1] at z; exact Option.some.inj z)⟩]; exact h1)
    refine ⟨R.len.trans l2.symm, R'.sub, fun j c e => ?_, fun i j ci cj ds es' p ei ej mi mj si sj => ?_, fun a o e => ?_, ⟨R'.tabs.tb, R.tabs.nt, R'.tabs.nf⟩⟩
    · rcases hw2 j c e with ⟨k, c', ds, h1, h2, h3, rfl⟩ | ⟨h1, h2⟩
      · obtain ⟨p, c1, d1, a1, a2, a3, m1⟩ := lent k j h1
        rw [h3] at a2
        cases a2
        have m2 : MutOk G ⟨Pt', Bp'⟩ ((vs ++ dvs).map some) H' Hf' k ds (Bp' k) := R'.cell k _ h2
        rw [bp k p a1] at m2
        have new : MutOk G F σ H' Hf' j ds p := ⟨m1.at_, m2.nf, m1.np, m2.ls⟩
        cases c' with
        | no => cases a3
        | val d => cases a3
        | exn C f d => cases a3
        | own es => exact ⟨p, new⟩
        | bor es =>
          have : F.Bp j = p := by
            have h := (show MutOk G F σ H Hf j es (F.Bp j) from R.cell j _ h3).at_
            rw [m1.at_] at h
            cases h; rfl
          show MutOk G F σ H' Hf' j ds (F.Bp j)
          rw [this]; exact new
      · have k0 := R.cell j c h2
        have mk : ∀ ds p, c.mu? = some ds → MutOk G F σ H Hf j ds p → MutOk G F σ H' Hf' j ds p := fun ds p hl m => by
          obtain ⟨ws, hp, r⟩ := m.ls
          have np : ¬ passed p := fun z => h1 ((npass p z).2 j c ds h2 hl m.at_)
          obtain ⟨k1, k2⟩ := keep p _ hp (fun ps z => by subst z; exact mu_tbl r) m.nf np
          exact ⟨m.at_, k2, m.np, ws, k1, r.mono s⟩
        cases c with
        | no => trivial
        | val d => obtain ⟨v, h, r⟩ := k0; exact ⟨v, h, r.mono s⟩
        | own ds => obtain ⟨p, m⟩ := k0; exact ⟨p, mk _ _ rfl m⟩
        | bor ds => exact mk _ _ rfl k0
        | exn C f d => obtain ⟨a, dd, v, h0, h1, h2, r⟩ := k0; exact ⟨a, dd, v, h0, h1, s _ _ h2, r.mono s⟩
    · have old : ∀ (j : Nat) (c : Cell) (ds : Mu), ρ2[j]? = some c → c.mu? = some ds → ∃ c' ds', ρ[j]? = some c' ∧ c'.mu? = some ds' := fun j c ds e m => by
        rcases hw2 j c e with ⟨k, c', ds', h1, h2, h3, rfl⟩ | ⟨h1, h2⟩
        · obtain ⟨p, c1, d1, a1, a2, a3, m1⟩ := lent k j h1
          exact ⟨c1, d1, a2, a3⟩
        · exact ⟨c, ds, h2, m⟩
      obtain ⟨c1, d1, a1, a2⟩ := old i ci ds ei mi
      obtain ⟨c2, d2, b1, b2⟩ := old j cj es' ej mj
      exact R.apart i j c1 c2 d1 d2 p a1 b1 a2 b2 si sj
    · obtain ⟨h1, h2⟩ := R.prot a o e
      exact keep a o h1 (fun ps z => R.tabs.nt a ps (by rw [← z]; exact e)) h2 fun z => by rw [(npass a z).1] at e; cases e
theorem app_ok {α : Type} {W : WX} {n : Nat} {Qr : VK → α → Hp → Hp → PEnv → Prop} {fn : List Cell → Rs α} {vs dvs : List V} {as : List Arg} {dfl : List D} {Q : VK} (R : Rep G F σ H Hf ρ) (ra : ArgsOk G σ Hf vs as) (rd : RpL G Hf dvs dfl)
    (hq : ∀ d H' Hf' ρ1 ρ2, Qr Q d H' Hf' ρ1 → Qr Q d H' Hf' ρ2) (p : PostE G F W σ Hf (Qr Q) (appF n fn dfl as ρ)) : spQ G n Qr fn (vs ++ dvs) H Q (fun c d H' => W c d σ H') := by
  unfold appF at p
  by_cases hn : ¬ (as.length + dfl.length = n ∧ (sls as).Nodup)
  · rw [if_neg hn] at p; exact p.elim
  have hn := Decidable.not_not.mp hn
  rw [if_pos hn] at p
  cases hc : cells ρ as with
  | none => simp only [hc] at p; exact p.elim
  | some cs =>
    simp only [hc] at p
    obtain ⟨F', Ri, back⟩ := call_in R ra hc hn.2 rd
    refine ⟨F', Hf, _, by rw [List.length_append, ra.len, rd.len]; exact hn.1, Ri, ?_⟩
    cases hf : fn (cs ++ dfl.map .val) with
    | bad => simp only [hf] at p; exact p.elim
    | ok d es =>
      simp only [hf] at p
      cases hw : wb as es ρ with
      | none => simp only [hw] at p; exact p.elim
      | some ρ2 =>
        simp only [hw] at p
        exact fun H' Hf' R' s => hq _ _ _ _ _ (p H' Hf' (back R' s hw) s)
    | exc C f d es =>
      simp only [hf] at p
      cases hw : wb as es ρ with
      | none => simp only [hw] at p; exact p.elim
      | some ρ2 =>
        simp only [hw] at p
        exact fun v dd H' Hf' R' s r hd => p v dd H' Hf' (back R' s hw) s r hd
end
end Spk
namespace Spk
open PySem PySem.Spec PyProof.Rows L2
section
variable {G : Gx} {X : Cx} {W : WX} {e o : Expr} {es : List Expr} {os : List Opd} {pos p : Pos} {x : Str} {k j n : Nat} {ps : List Str} {fn : List Cell → Rs D} {f C : Addr} {fd : FuncData}
/-- f(..), nothing is let out -/
def eCall {α : Type} (n : Nat) (fn : List Cell → Rs α) (dfl : List D) (os : List Opd) : PEnv → Rs α := fun ρ => (evs os ρ).bind fun as ρ1 => (appF n fn dfl as ρ1).nx
/-- f(..), what f raises goes on -/
def eCallX {α : Type} (n : Nat) (fn : List Cell → Rs α) (dfl : List D) (os : List Opd) : PEnv → Rs α := fun ρ => (evs os ρ).bind fun as ρ1 => appF n fn dfl as ρ1
theorem call_e0 {ex : Expr} {dvs : List V} {dfl : List D} (ha : DA G X W es os) (rd : ∀ Hf, RpL G Hf dvs dfl) (mk : ∀ {t : TA}, PA X es t → PE X ex (fun σ H Q => t σ H fun vs H1 => spD G n fn (vs ++ dvs) H1 Q E0)) : DE G X W ex (eCall n fn dfl os) := by
  obtain ⟨t1, p1, q1⟩ := ha
  refine DE.intro ⟨_, mk p1, fun F σ H Hf ρ Q R p => ?_⟩
  refine q1 F σ H Hf ρ _ R ((PostE.bind p).imp fun as H1 Hf1 ρ1 _ R1 s1 p vs rs => ?_)
  exact app_ok (W := W0) R1 rs (rd Hf1) (fun _ _ _ _ _ h => h) (PostE.nx (W := W) p)
theorem call_ex {ex : Expr} {dvs : List V} {dfl : List D} (ha : DA G X W es os) (rd : ∀ Hf, RpL G Hf dvs dfl) (mk : ∀ {t : TA}, PA X es t → PE X ex (fun σ H Q => t σ H fun vs H1 => spD G n fn (vs ++ dvs) H1 Q (WE W σ))) : DE G X W ex (eCallX n fn dfl os) := by
  obtain ⟨t1, p1, q1⟩ := ha
  refine DE.intro ⟨_, mk p1, fun F σ H Hf ρ Q R p => ?_⟩
  refine q1 F σ H Hf ρ _ R ((PostE.bind p).imp fun as H1 Hf1 ρ1 _ R1 s1 p vs rs => ?_)
  exact app_ok (W := W) R1 rs (rd Hf1) (fun _ _ _ _ _ h => h) p
theorem call_f0 {fl : List Cell → Rs (List D)} {ex : Expr} {dvs : List V} {dfl : List D} (ha : DA G X W es os) (rd : ∀ Hf, RpL G Hf dvs dfl) (mk : ∀ {t : TA}, PA X es t → PE X ex (fun σ H Q => t σ H fun vs H1 => spF G n fl (vs ++ dvs) H1 Q E0)) : DF G X W ex (eCall n fl dfl os) := by
  obtain ⟨t1, p1, q1⟩ := ha
  refine ⟨_, mk p1, fun F σ H Hf ρ Q R p => ?_⟩
  refine q1 F σ H Hf ρ _ R ((PostE.bind p).imp fun as H1 Hf1 ρ1 _ R1 s1 p vs rs => ?_)
  exact app_ok (W := W0) R1 rs (rd Hf1) (fun _ _ _ _ _ h => h) (PostE.nx (W := W) p)
theorem df_call {fl : List Cell → Rs (List D)} (R : Rdy X.prog X.w X.K X.mg X.base x k ps (spF G n fl) f fd) (rm : Room j X.A) (hj : k ≤ j) (hg : Gl X x) (ha : DA G X W (e :: es) os) (hdb : (x == ("__debug__" : Str)) = false := by decide)
    (he : starEach (e :: es) X.env = (false, eval e X.env) :: starEach es X.env := by rfl) (hpl : (backTo pos (starEach es X.env)).any (·.1) = false := by rfl) : DF G X W (.Call (.Name x p) (e :: es) [] pos) (eCall n fl [] os) :=
  call_f0 ha (fun _ => .nil) fun pa => pe_rdy R rm hj hg pa hdb he hpl
theorem de_call (R : Rdy X.prog X.w X.K X.mg X.base x k ps (spD G n fn) f fd) (rm : Room j X.A) (hj : k ≤ j) (hg : Gl X x) (ha : DA G X W (e :: es) os) (hdb : (x == ("__debug__" : Str)) = false := by decide)
    (he : starEach (e :: es) X.env = (false, eval e X.env) :: starEach es X.env := by rfl) (hpl : (backTo pos (starEach es X.env)).any (·.1) = false := by rfl) : DE G X W (.Call (.Name x p) (e :: es) [] pos) (eCall n fn [] os) :=
  call_e0 ha (fun _ => .nil) fun pa => pe_rdy R rm hj hg pa hdb he hpl
theorem de_callXS (R : RdyX X.prog X.w X.K X.mg X.base x k ps (spD G n fn) f fd) (rm : Room j X.A) (hj : k ≤ j) (hg : Gl X x) (tk : Takes X W) (ha : DA G X W (e :: es) os) (hdb : (x == ("__debug__" : Str)) = false := by decide)
    (he : starEach (e :: es) X.env = (false, eval e X.env) :: starEach es X.env := by rfl) (hpl : (backTo pos (starEach es X.env)).any (·.1) = false := by rfl) : DE G X W (.Call (.Name x p) (e :: es) [] pos) (eCallX n fn [] os) :=
  call_ex ha (fun _ => .nil) fun pa => pe_callSD R.ok (rm.mono hj) hg R.gl R.kp R.bd .nil (fun σ => passAt tk σ) pa hdb he hpl
/-! ### instances -/
theorem RpL.look {H : Hp} {g : Str} : ∀ {ks : List Str} {vs : List V} {ds : List D} {d : D}, RpL G H vs ds → vs.length = ks.length → (ks.zip ds).lookup g = some d → ∃ v, (ks.zip vs).lookup g = some v ∧ Rp G H v d
  | [], _, _, _, r, _, h => by simp at h
  | _ :: _, _, _, _, .nil, l, h => by simp at h
  | k :: ks, _, _, d, .cons (v := v) (vs := vs) (d := d0) (ds := ds) r t, l, h => by
    rw [List.zip_cons_cons, List.lookup_cons] at h ⊢
    cases e : g == k with
    | true => rw [e] at h; cases h; exact ⟨v, rfl, r⟩
    | false => rw [e] at h; exact RpL.look t (by simpa using l) h
theorem RpL.lookN {H : Hp} {g : Str} : ∀ {ks : List Str} {vs : List V} {ds : List D}, RpL G H vs ds → vs.length = ks.length → (ks.zip ds).lookup g = none → (ks.zip vs).lookup g = none
  | [], _, _, r, _, h => by simp
  | _ :: _, _, _, .nil, l, h => by simp
  | k :: ks, _, _, .cons (v := v) (vs := vs) (d := d0) (ds := ds) r t, l, h => by
    rw [List.zip_cons_cons, List.lookup_cons] at h ⊢
    cases e : g == k with
    | true => rw [e] at h; cases h
    | false => rw [e] at h; exact RpL.lookN t (by simpa using l) h
/-- the field g of an instance of one of these classes -/
def fldD (Cs : List Str) (g : Str) : D → Option D
  | .ins C ks ds => if C ∈ Cs then (ks.zip ds).lookup g else none
  | _ => none
def FldOk (G : Gx) (Cs : List Str) (g : Str) : Prop := ∀ C ∈ Cs, Cls G.K (G.cm C) ∧ NoAttr G.K (G.cm C) g
def eFld (Cs : List Str) (g : Str) (o : EX) : EX := fun ρ => (o ρ).bind fun d ρ1 => Rs.lift (fldD Cs g d) ρ1
theorem de_fld {Cs : List Str} {g : Str} {fo : EX} (h : DE G X W o fo) (hc : FldOk G Cs g) (hK : X.K = G.K := by rfl) (hb : attributeBase o g X.env (eval o X.env) = eval o X.env := by rfl) : DE G X W (.Attribute o g pos) (eFld Cs g fo) := by
  obtain ⟨t, p1, q1⟩ := DE.elim h
  refine DE.intro ⟨_, pe_fld p1 hb, fun F σ H Hf ρ Q R p => q1 F σ H Hf ρ _ R ((PostE.bind p).imp fun d H1 Hf1 ρ1 _ R1 s1 p v r => ?_)⟩
  obtain ⟨u, hu, q⟩ := lift_post (H := H1) p
  cases d with
  | ins C ks ds =>
    change (if C ∈ Cs then (ks.zip ds).lookup g else none) = some u at hu
    by_cases c : C ∈ Cs
    · rw [if_pos c] at hu
      cases r with
      | ins ha l rl =>
        obtain ⟨w, h1, h2⟩ := rl.look l hu
        exact ⟨_, _, _, _, w, rfl, R1.sub _ _ ha, hK ▸ (hc C c).1, hK ▸ (hc C c).2, h1, q H1 Hf1 R1 (Same.refl _) w h2⟩
    · rw [if_neg c] at hu; cases hu
  | _ => cases hu
def eSFld (C : Str) (g : Str) (i : Nat) : EX := fun ρ => match ρ[i]?.bind Cell.mu? with
  | some (.obj C' ks ds) => if C' = C then Rs.lift ((ks.zip ds).lookup g) ρ else .bad
  | _ => .bad
theorem de_sfld {C g y : Str} {i : Nat} (hc : FldOk G [C] g) (hN : X.N[i]? = some y := by rfl) (hv : Vis X.env.scope y := by first | exact .inl rfl | exact .inr (.inl rfl) | exact .inr (.inr rfl)) (hd : (y == ("__debug__" : Str)) = false := by decide) (hcd : (y == ("__classdict__" : Str)) = false := by decide) (hK : X.K = G.K := by rfl)
    (hb : attributeBase (.Name y p) g X.env (eval (.Name y p) X.env) = eval (.Name y p) X.env := by rfl) : DE G X W (.Attribute (.Name y p) g pos) (eSFld C g i) := by
  refine DE.intro ⟨_, pe_fld (pe_var (i := i) hN hv hd hcd) hb, fun F σ H Hf ρ Q R p => ?_⟩
  unfold eSFld at p
  split at p
  · rename_i C' ks ds hm
    by_cases c : C' = C
    · rw [if_pos c] at p
      subst c
      obtain ⟨u, hu, q⟩ := lift_post (H := H) p
      obtain ⟨cc, h1, h2⟩ := Option.bind_eq_some_iff.mp hm
      obtain ⟨a, m⟩ := (R.cell i cc h1).mut h2
      obtain ⟨o0, ha, r0⟩ := m.ls
      cases o0 <;> try exact r0.elim
      obtain ⟨rfl, vs, rfl, l, rl⟩ := r0
      obtain ⟨w, h3, h4⟩ := rl.look l hu
      exact ⟨.ref a, m.at_, a, _, _, _, w, rfl, ha, hK ▸ (hc C' (List.mem_singleton_self _)).1, hK ▸ (hc C' (List.mem_singleton_self _)).2, h3, q H Hf R (Same.refl _) w h4⟩
    · rw [if_neg c] at p; exact p.elim
  · exact p.elim
/-- self.g = e, in the making -/
def putK (g : Str) (d : D) : List Str → List D → Option (List Str × List D)
  | [], [] => some ([g], [d])
  | k :: ks, e :: es => if k = g then some (k :: ks, d :: es) else (putK g d ks es).map fun p => (k :: p.1, e :: p.2)
  | _, _ => none
theorem putK_ok {H : Hp} {g : Str} {v : V} {d : D} (r : Rp G H v d) : ∀ {ks : List Str} {ds : List D} {vs : List V} {ks' : List Str} {ds' : List D}, RpL G H vs ds → vs.length = ks.length → putK g d ks ds = some (ks', ds') →
    ∃ vs', putF g v (ks.zip vs) = ks'.zip vs' ∧ vs'.length = ks'.length ∧ RpL G H vs' ds'
  | [], [], _, _, _, .nil, _, h => by
    cases h
    exact ⟨[v], rfl, rfl, .cons r .nil⟩
  | k :: ks, e :: es, _, ks', ds', .cons (v := w) (vs := ws) rw_ rt, l, h => by
    unfold putK at h
    by_cases c : k = g
    · rw [if_pos c] at h
      cases h
      refine ⟨v :: ws, ?_, by simpa using l, .cons r rt⟩
      show (if k = g then (k, v) :: ks.zip ws else _) = _
      rw [if_pos c]; rfl
    · rw [if_neg c] at h
      obtain ⟨⟨ks2, ds2⟩, h1, h2⟩ := Option.map_eq_some_iff.mp h
      cases h2
      obtain ⟨vs2, e1, e2, e3⟩ := putK_ok r rt (by simpa using l) h1
      refine ⟨w :: vs2, ?_, by simp [e2], .cons rw_ e3⟩
      show (if k = g then _ else (k, w) :: putF g v (ks.zip ws)) = _
      rw [if_neg c, e1]; rfl
  | [], _ :: _, _, _, _, _, _, h => by simp [putK] at h
  | _ :: _, [], _, _, _, _, _, h => by simp [putK] at h
def sFldS (C g : Str) (i : Nat) (fe : EX) : SX := fun ρ => Sr.of (fe ρ) fun d ρ1 => match ρ1[i]? with
  | some c => (match c.mu? with
    | some (.obj C' ks ds) => if C' = C ∧ ks.length < 1000 then (match putK g d ks ds with
      | some (ks', ds') => .nx (ρ1.set i (c.put (.obj C ks' ds')))
      | none => .bad) else .bad
    | _ => .bad)
  | none => .bad
theorem ds_fld {C g y : Str} {i : Nat} {fe : EX} {p1 pos' : Pos} (h : DE G X W e fe) (hc : FldOk G [C] g) (hN : X.N[i]? = some y := by rfl) (hv : Vis X.env.scope y := by first | exact .inl rfl | exact .inr (.inl rfl) | exact .inr (.inr rfl)) (hd : (y == ("__debug__" : Str)) = false := by decide) (hcd : (y == ("__classdict__" : Str)) = false := by decide) (hK : X.K = G.K := by rfl)
    (hs : swapsWith e (some (.Attribute (.Name y p1) g pos')) pos.line X.env = pure false := by rfl) : DS G X W (.Assign [.Attribute (.Name y p1) g pos'] e pos) (sFldS C g i fe) := by
  obtain ⟨t, q0, q1⟩ := DE.elim h
  refine ⟨_, ps_fld (pe_var (i := i) hN hv hd hcd) q0 hs, fun F σ H Hf ρ En R p => q1 F σ H Hf ρ _ R ((PostS.of p).imp fun d H1 Hf1 ρ1 _ R1 s1 p v r => ?_)⟩
  split at p
  · rename_i c hcell
    split at p
    · rename_i C' ks ds hm
      by_cases cc : C' = C ∧ ks.length < 1000
      · rw [if_pos cc] at p
        obtain ⟨rfl, lk⟩ := cc
        split at p
        · rename_i ks' ds' hp
          obtain ⟨a, m⟩ := (R1.cell i c hcell).mut hm
          obtain ⟨o0, ha, r0⟩ := m.ls
          cases o0 <;> try exact r0.elim
          obtain ⟨rfl, vs, rfl, l, rl⟩ := r0
          obtain ⟨vs', e1, e2, e3⟩ := putK_ok r rl l hp
          refine ⟨.ref a, m.at_, a, _, _, _, rfl, ha, hK ▸ (hc C' (List.mem_singleton_self _)).1, hK ▸ (hc C' (List.mem_singleton_self _)).2, by rw [List.length_zip]; omega, ?_⟩
          rw [e1]
          exact p σ _ Hf1 (R1.write (ws := .ins _ _ (ks'.zip vs')) (es := .obj C' ks' ds') hcell hm m.at_ ⟨rfl, vs', rfl, e2, e3⟩) (Same.refl _)
        · exact p.elim
      · rw [if_neg cc] at p; exact p.elim
    · exact p.elim
  · exact p.elim
/-! ### making an instance -/
def mkE (n : Nat) (fn : List Cell → Rs D) (C : Str) (dfl : List D) (as : List Arg) (ρ : PEnv) : Rs D := match appF n fn dfl (.sl ρ.length :: as) (ρ ++ [.own (.obj C [] [])]) with
  | .ok .non ρ2 => (match ρ2[ρ.length]? with
    | some (.own (.obj C' ks ds)) => if C' = C ∧ ρ2.length = ρ.length + 1 then .ok (.ins C ks ds) (ρ2.take ρ.length) else .bad
    | _ => .bad)
  | .exc E g d ρ2 => if ρ2.length = ρ.length + 1 then .exc E g d (ρ2.take ρ.length) else .bad
  | _ => .bad
theorem Rep.push {F : Fr} {σ : L2.St} {H Hf : Hp} {ρ : PEnv} (R : Rep G F σ H Hf ρ) {a dx : Addr} {c : Str} (na : H a = none) (nd : H dx = none) (ne : dx ≠ a) :
    Rep G F (σ ++ [some (.ref a)]) (upd (upd H dx (.own a)) a (.ins (G.cm c) dx [])) Hf (ρ ++ [.own (.obj c [] [])]) := by
  have na' : (upd H dx (.own a)) a = none := by rw [upd_ne ne.symm]; exact na
  have R1 := (R.side nd (.own a)).side na' (.ins (G.cm c) dx [])
  obtain ⟨_, np, nm⟩ := (R.side nd (.own a)).newFree na'
  have low : ∀ {i : Nat} {c' : Cell}, (ρ ++ [Cell.own (.obj c [] [])])[i]? = some c' → (i < ρ.length ∧ ρ[i]? = some c') ∨ (i = ρ.length ∧ c' = .own (.obj c [] [])) := fun {i c'} e => by
    rw [List.getElem?_append] at e
    split at e
    · exact .inl ⟨by assumption, e⟩
    · rename_i h
      have : i - ρ.length = 0 := by
        cases hh : i - ρ.length with
        | zero => rfl
        | succ m => rw [hh] at e; simp at e
      rw [this] at e
      exact .inr ⟨by omega, (Option.some.inj e).symm⟩
  have sl : ∀ {i : Nat}, i < ρ.length → (σ ++ [some (.ref a)])[i]? = σ[i]? := fun {i} h => List.getElem?_append_left (by rw [R.len]; exact h)
  have sa : (σ ++ [some (V.ref a)])[ρ.length]? = some (some (.ref a)) := by
    rw [List.getElem?_append_right (by rw [R.len]; exact Nat.le_refl _), R.len, Nat.sub_self]; rfl
  refine ⟨by simp [R.len], R1.sub, fun i c' e => ?_, fun i j ci cj ds es p ei ej mi mj si sj => ?_, R1.prot, R1.tabs⟩
  · rcases low e with ⟨hl, e⟩ | ⟨rfl, rfl⟩
    · have k := R1.cell i c' e
      have mk : ∀ ds p, MutOk G F σ (upd (upd H dx (.own a)) a (.ins (G.cm c) dx [])) Hf i ds p → MutOk G F (σ ++ [some (.ref a)]) (upd (upd H dx (.own a)) a (.ins (G.cm c) dx [])) Hf i ds p := fun ds p m => ⟨by rw [sl hl]; exact m.at_, m.nf, m.np, m.ls⟩
      cases c' with
      | no => trivial
      | val d => obtain ⟨v, h, r⟩ := k; exact ⟨v, by rw [sl hl]; exact h, r⟩
      | own ds => obtain ⟨p, m⟩ := k; exact ⟨p, mk _ _ m⟩
      | bor ds => exact mk _ _ k
      | exn C f d => obtain ⟨a', dd, v, h0, h1, h2, r⟩ := k; exact ⟨a', dd, v, h0, by rw [sl hl]; exact h1, h2, r⟩
    · exact ⟨a, sa, (R.side nd (.own a)).nf na', np, _, upd_same, rfl, [], rfl, rfl, .nil⟩
  · rcases low ei with ⟨h1, e1⟩ | ⟨rfl, rfl⟩ <;> rcases low ej with ⟨h2, e2⟩ | ⟨rfl, rfl⟩
    · rw [sl h1] at si
      rw [sl h2] at sj
      exact R.apart i j ci cj ds es p e1 e2 mi mj si sj
    · rw [sl h1] at si
      rw [sa] at sj
      cases sj
      exact absurd si (nm i ci ds e1 mi)
    · rw [sa] at si
      rw [sl h2] at sj
      cases si
      exact absurd sj (nm j cj es e2 mj)
    · rfl
/-- the made instance is frozen -/
theorem Rep.pop {F : Fr} {σ : L2.St} {H Hf : Hp} {ρ : PEnv} {m : Nat} {a : Addr} {c : Str} {ks : List Str} {ds : List D} (hm : σ.length = m) (R : Rep G F (σ ++ [some (.ref a)]) H Hf ρ) (h : ρ[m]? = some (.own (.obj c ks ds))) (hl : ρ.length = m + 1) :
    ∃ Hf', Same Hf Hf' ∧ Rep G F σ H Hf' (ρ.take m) ∧ Rp G Hf' (.ref a) (.ins c ks ds) := by
  obtain ⟨p, mo⟩ := R.cell m _ h
  have sa : (σ ++ [some (V.ref a)])[m]? = some (some (.ref a)) := by
    rw [List.getElem?_append_right (by omega), hm, Nat.sub_self]; rfl
  have e := mo.at_
  rw [sa] at e
  cases e
  obtain ⟨o0, ha, r0⟩ := mo.ls
  cases o0 <;> try exact r0.elim
  obtain ⟨rfl, vs, rfl, l, rl⟩ := r0
  rename_i dx
  have sf : Same Hf (upd Hf a (.ins (G.cm c) dx (ks.zip vs))) := Same.new mo.nf
  have sl : ∀ {i : Nat}, i < m → (σ ++ [some (V.ref a)])[i]? = σ[i]? := fun {i} h => List.getElem?_append_left (by omega)
  have low : ∀ {i : Nat} {c' : Cell}, (ρ.take m)[i]? = some c' → i < m ∧ ρ[i]? = some c' := fun {i c'} e => by
    rw [List.getElem?_take] at e
    split at e
    · exact ⟨by assumption, e⟩
    · cases e
  refine ⟨_, sf, ⟨by rw [List.length_take]; omega, fun b o eb => ?_, fun i c' e => ?_, fun i j ci cj d1 d2 q ei ej mi mj si sj => ?_, fun b o eb => ?_, ⟨R.tabs.tb, R.tabs.nt, upd_nf R.tabs.nf fun _ z => by cases z⟩⟩, .ins upd_same l (rl.mono sf)⟩
  · by_cases hb : b = a
    · subst hb; rw [upd_same] at eb; cases eb; exact ha
    · rw [upd_ne hb] at eb; exact R.sub _ _ eb
  · obtain ⟨hl, e⟩ := low e
    have k := R.cell i c' e
    have mk : ∀ ds p, c'.mu? = some ds → MutOk G F (σ ++ [some (.ref a)]) H Hf i ds p → MutOk G F σ H (upd Hf a (.ins (G.cm c) dx (ks.zip vs))) i ds p := fun ds p hm' mm => by
      have nq : p ≠ a := fun z => absurd (R.apart i m c' _ ds _ p e h hm' rfl mm.at_ (by rw [sa, z])) (by omega)
      obtain ⟨o1, h1, r1⟩ := mm.ls
      exact ⟨by rw [← sl hl]; exact mm.at_, by rw [upd_ne nq]; exact mm.nf, mm.np, o1, h1, r1.mono sf⟩
    cases c' with
    | no => trivial
    | val d => obtain ⟨v, h, r⟩ := k; exact ⟨v, by rw [← sl hl]; exact h, r.mono sf⟩
    | own ds => obtain ⟨p, mm⟩ := k; exact ⟨p, mk _ _ rfl mm⟩
    | bor ds => exact mk _ _ rfl k
    | exn C f d => obtain ⟨a', dd, v, h0, h1, h2, r⟩ := k; exact ⟨a', dd, v, h0, by rw [← sl hl]; exact h1, sf _ _ h2, r.mono sf⟩
  · obtain ⟨hi, ei⟩ := low ei
    obtain ⟨hj, ej⟩ := low ej
    exact R.apart i j ci cj d1 d2 q ei ej mi mj (by rw [sl hi]; exact si) (by rw [sl hj]; exact sj)
  · obtain ⟨h1, h2⟩ := R.prot b o eb
    exact ⟨h1, by rw [upd_ne (fun z => by rw [z, mo.np] at eb; cases eb)]; exact h2⟩
theorem Rep.cut {F : Fr} {σ : L2.St} {H Hf : Hp} {ρ : PEnv} {m : Nat} {s : Option V} (hm : σ.length = m) (R : Rep G F (σ ++ [s]) H Hf ρ) (hl : ρ.length = m + 1) : Rep G F σ H Hf (ρ.take m) := by
  have sl : ∀ {i : Nat}, i < m → (σ ++ [s])[i]? = σ[i]? := fun {i} h => List.getElem?_append_left (by omega)
  have low : ∀ {i : Nat} {c' : Cell}, (ρ.take m)[i]? = some c' → i < m ∧ ρ[i]? = some c' := fun {i c'} e => by
    rw [List.getElem?_take] at e
    split at e
    · exact ⟨by assumption, e⟩
    · cases e
  refine ⟨by rw [List.length_take]; omega, R.sub, fun i c' e => ?_, fun i j ci cj d1 d2 q ei ej mi mj si sj => ?_, R.prot, R.tabs⟩
  · obtain ⟨hl, e⟩ := low e
    have k := R.cell i c' e
    have mk : ∀ ds p, MutOk G F (σ ++ [s]) H Hf i ds p → MutOk G F σ H Hf i ds p := fun ds p mm => ⟨by rw [← sl hl]; exact mm.at_, mm.nf, mm.np, mm.ls⟩
    cases c' with
    | no => trivial
    | val d => obtain ⟨v, h, r⟩ := k; exact ⟨v, by rw [← sl hl]; exact h, r⟩
    | own ds => obtain ⟨p, mm⟩ := k; exact ⟨p, mk _ _ mm⟩
    | bor ds => exact mk _ _ k
    | exn C f d => obtain ⟨a', dd, v, h0, h1, h2, r⟩ := k; exact ⟨a', dd, v, h0, by rw [← sl hl]; exact h1, h2, r⟩
  · obtain ⟨hi, ei⟩ := low ei
    obtain ⟨hj, ej⟩ := low ej
    exact R.apart i j ci cj d1 d2 q ei ej mi mj (by rw [sl hi]; exact si) (by rw [sl hj]; exact sj)
theorem ArgOk.push {σ : L2.St} {Hf : Hp} {v : V} {a : Arg} {s : Option V} (h : ArgOk G σ Hf v a) : ArgOk G (σ ++ [s]) Hf v a := by
  cases a with
  | val d => exact h
  | sl i =>
    have h : σ[i]? = some (some v) := h
    show (σ ++ [s])[i]? = _
    rw [List.getElem?_append_left (List.getElem?_eq_some_iff.mp h).1]; exact h
theorem ArgsOk.push {σ : L2.St} {Hf : Hp} {s : Option V} : ∀ {vs : List V} {as : List Arg}, ArgsOk G σ Hf vs as → ArgsOk G (σ ++ [s]) Hf vs as
  | _, _, .nil => .nil
  | _, _, .cons h t => .cons h.push (ArgsOk.push t)
theorem make_ok {F : Fr} {σ : L2.St} {H Hf : Hp} {ρ : PEnv} {c : Str} {vs dvs : List V} {as : List Arg} {dfl : List D} {Q : VK} (R : Rep G F σ H Hf ρ) (ra : ArgsOk G σ Hf vs as) (rd : RpL G Hf dvs dfl)
    (p : PostE G F W σ Hf (fun d H' Hf' _ => ∀ v, Rp G Hf' v d → Q v H') (mkE n fn c dfl as ρ)) {a dx : Addr} (na : H a = none) (nd : H dx = none) (ne : dx ≠ a) :
    spD G n fn (.ref a :: (vs ++ dvs)) (upd (upd H dx (.own a)) a (.ins (G.cm c) dx [])) (fun v H2 => v = .non ∧ Q (.ref a) H2) (fun c d H' => W c d σ H') := by
  have R1 := R.push (c := c) na nd ne
  have ra1 : ArgsOk G (σ ++ [some (.ref a)]) Hf (.ref a :: vs) (.sl ρ.length :: as) := .cons (by
    show (σ ++ [some (V.ref a)])[ρ.length]? = _
    rw [List.getElem?_append_right (by rw [R.len]; exact Nat.le_refl _), R.len, Nat.sub_self]; rfl) ra.push
  have lm : σ.length = ρ.length := R.len
  refine app_ok (Qr := Qdat G) (vs := .ref a :: vs) (W := fun c d _ H' => W c d σ H') R1 ra1 rd (fun _ _ _ _ _ h => h) ?_
  unfold mkE at p
  cases hr : appF n fn dfl (.sl ρ.length :: as) (ρ ++ [.own (.obj c [] [])]) with
  | bad => rw [hr] at p; exact p.elim
  | exc E g d ρ2 =>
    simp only [hr] at p
    by_cases hl : ρ2.length = ρ.length + 1
    · rw [if_pos hl] at p
      exact fun v dd H' Hf' R' s r hd => p v dd H' Hf' (R'.cut lm hl) s r hd
    · rw [if_neg hl] at p; exact p.elim
  | ok d ρ2 =>
    simp only [hr] at p
    cases d with
    | non =>
      cases hc : ρ2[ρ.length]? with
      | none => simp only [hc] at p; exact p.elim
      | some cl =>
        simp only [hc] at p
        cases cl with
        | own mm =>
          cases mm with
          | obj C' ks ds =>
            change PostE G F W σ Hf _ (if C' = c ∧ ρ2.length = ρ.length + 1 then Rs.ok (D.ins c ks ds) (ρ2.take ρ.length) else Rs.bad) at p
            by_cases hl : C' = c ∧ ρ2.length = ρ.length + 1
            · rw [if_pos hl] at p
              obtain ⟨rfl, hl⟩ := hl
              intro H' Hf' R' s v r
              obtain ⟨Hf2, s2, R2, r2⟩ := R'.pop lm hc hl
              exact ⟨rp_n r, p H' Hf2 R2 (s.trans s2) _ r2⟩
            · rw [if_neg hl] at p; exact p.elim
          | lst ds => exact p.elim
          | dct ks ds => exact p.elim
        | _ => exact p.elim
    | _ => exact p.elim
def eMk (n : Nat) (fn : List Cell → Rs D) (c : Str) (dfl : List D) (os : List Opd) : EX := fun ρ => (evs os ρ).bind fun as ρ1 => (mkE n fn c dfl as ρ1).nx
/-! ### methods, properties, signs -/
theorem de_prop {c g : Str} {q : Addr} {fo : EX} (h : DE G X W o fo) (R : RdyPr X.prog X.w X.K X.mg X.base (G.cm c) g k (spD G 1 fn) q f fd) (hc : Cls X.K (G.cm c)) (rm : Room j X.A) (hj : k + 1 ≤ j) (hb : attributeBase o g X.env (eval o X.env) = eval o X.env := by rfl) :
    DE G X W (.Attribute o g pos) (fun ρ => (fo ρ).bind fun d ρ1 => match d with
      | .ins C ks ds => if C = c then (appF 1 fn [] [.val (.ins C ks ds)] ρ1).nx else .bad
      | _ => .bad) := by
  obtain ⟨t, p1, q1⟩ := DE.elim h
  refine DE.intro ⟨_, pe_prop p1 hc R.pr R.ok (rm.mono hj) R.bd .nil pass0 hb, fun F σ H Hf ρ Q Rr p => q1 F σ H Hf ρ _ Rr ((PostE.bind p).imp fun d H1 Hf1 ρ1 _ R1 s1 p v r => ?_)⟩
  cases d with
  | ins C ks ds =>
    change PostE G F W σ Hf1 _ (if C = c then (appF 1 fn [] [.val (.ins C ks ds)] ρ1).nx else .bad) at p
    by_cases cc : C = c
    · rw [if_pos cc] at p
      have p2 := p
      subst cc
      have r0 : ArgOk G σ Hf1 v (.val (.ins C ks ds)) := r
      cases r with
      | ins ha l rl => exact ⟨_, _, _, rfl, R1.sub _ _ ha, app_ok (vs := [_]) (W := W0) R1 (.cons r0 .nil) .nil (fun _ _ _ _ _ h => h) (PostE.nx (W := W) p2)⟩
    · rw [if_neg cc] at p; exact p.elim
  | _ => exact p.elim
end
end Spk
namespace Spk
open PySem PySem.Spec PyProof.Rows L2
section
variable {G : Gx} {X : Cx} {W : WX} {e e2 o a b : Expr} {es : List Expr} {os : List Opd} {pos p : Pos} {x : Str} {k j n : Nat} {ps : List Str} {fn : List Cell → Rs D} {f C : Addr} {fd : FuncData}
/-! ### signs between instances -/
def isIns (c : Str) : D → Bool
  | .ins C _ _ => C == c
  | _ => false
theorem ins_of {H : Hp} {v : V} {d : D} {c : Str} (r : Rp G H v d) (h : isIns c d = true) : ∃ a dx fs, v = .ref a ∧ H a = some (.ins (G.cm c) dx fs) := by
  cases r <;> try cases h
  rename_i h0 _ _
  obtain rfl := eq_of_beq h
  exact ⟨_, _, _, rfl, h0⟩
/-! ### isinstance -/
structure InsTy (G : Gx) (c : Str) : Prop where
  cl : Cls G.K (G.cm c)
  ha : PySem.W.findIn G.K (.ref (G.cm c)) "__class__" = some (some (.builtin "object.__class__"))
  hn : PySem.W.specialIn G.K (.builtin "object.__class__") "__get__" = some (some (.builtin "getset_descriptor.__get__"))
  ht : PySem.W.takesIn G.K (.builtin "object.__class__") = some true
  hm : PySem.W.mroIn G.K (G.cm c) (.type "object") = some true
/-- the type of data -/
def tyD (G : Gx) : D → Option Value
  | .non => some (.type "NoneType")
  | .bl _ => some (.type "bool")
  | .int _ => some (.type "int")
  | .str _ => some (.type "str")
  | .lst _ => some (.type "list")
  | .tup _ => some (.type "tuple")
  | .ins c _ _ => some (.ref (G.cm c))
  | .scr _ => none
def tyS : D → Option String
  | .non => some "NoneType"
  | .bl _ => some "bool"
  | .int _ => some "int"
  | .str _ => some "str"
  | .lst _ => some "list"
  | .tup _ => some "tuple"
  | _ => none
theorem ty_rp {H : Hp} {v : V} {d : D} {t : Value} (hi : ∀ c ks ds, d = .ins c ks ds → InsTy G c) (r : Rp G H v d) (h : tyD G d = some t) : TyX G.K H v t := by
  cases r <;> try cases h
  · exact .base .non
  · exact .base (.bl _)
  · exact .base (.int _)
  · exact .base (.str _)
  · rename_i q _; exact .base (.lst q)
  · rename_i q _
    rcases q with (q | ⟨o, q⟩) | ⟨o, its, n, q, c, _⟩
    · exact .base (.tup q)
    · exact .fTuple q
    · exact .kTuple q c
  · rename_i h0 _ _
    have I := hi _ _ _ rfl
    exact .base (.ins h0 I.cl I.ha I.hn I.ht I.hm)
/-- what isinstance(x, u) tells: tb by the built-in types' names, ow by the own classes' -/
structure KitF (G : Gx) (u : Value) (tb : List (String × Bool)) (ow : List (Str × Bool)) : Prop where
  bi : ∀ (a : String) (b : Bool), tb.lookup a = some b → PySem.W.kitOne G.K (.type a) u = some b
  ow : ∀ c b, ow.lookup c = some b → InsTy G c ∧ PySem.W.kitOne G.K (.ref (G.cm c)) u = some b
def isiD (tb : List (String × Bool)) (ow : List (Str × Bool)) (d : D) : Option Bool := match d with
  | .ins c _ _ => ow.lookup c
  | d => (tyS d).bind fun s => tb.lookup s
theorem isi_ok {d : D} {u : Value} {tb : List (String × Bool)} {ow : List (Str × Bool)} {b : Bool} (kf : KitF G u tb ow) (h : isiD tb ow d = some b) : ∃ t, tyD G d = some t ∧ PySem.W.kitOne G.K t u = some b ∧ ∀ {H : Hp} {v : V}, Rp G H v d → TyX G.K H v t := by
  cases d with
  | ins c ks ds =>
    obtain ⟨I, k⟩ := kf.ow c b h
    exact ⟨_, rfl, k, fun r => ty_rp (fun _ _ _ e => by cases e; exact I) r rfl⟩
  | scr ns => cases h
  | non => exact ⟨_, rfl, kf.bi _ _ h, fun r => ty_rp (fun _ _ _ e => by cases e) r rfl⟩
  | bl _ => exact ⟨_, rfl, kf.bi _ _ h, fun r => ty_rp (fun _ _ _ e => by cases e) r rfl⟩
  | int _ => exact ⟨_, rfl, kf.bi _ _ h, fun r => ty_rp (fun _ _ _ e => by cases e) r rfl⟩
  | str _ => exact ⟨_, rfl, kf.bi _ _ h, fun r => ty_rp (fun _ _ _ e => by cases e) r rfl⟩
  | lst _ => exact ⟨_, rfl, kf.bi _ _ h, fun r => ty_rp (fun _ _ _ e => by cases e) r rfl⟩
  | tup _ => exact ⟨_, rfl, kf.bi _ _ h, fun r => ty_rp (fun _ _ _ e => by cases e) r rfl⟩
def eIsi (tb : List (String × Bool)) (ow : List (Str × Bool)) (o : Opd) : EX := fun ρ => (o.ev ρ).bind fun a ρ1 => Rs.lift (((a.dat ρ1).bind (isiD tb ow)).map D.bl) ρ1
theorem de_isi {tb : List (String × Bool)} {ow : List (Str × Bool)} {o1 : Opd} {c : V} {u : Value} (ha : DO G X W a o1) (kf : KitF G u tb ow) (hcls : ClsV c u) (ht : PE X b (tC c)) (hg : Gl X "isinstance") (hm : X.mg "isinstance" = none) (hK : X.K = G.K := by rfl)
    (he0 : starEach [b] X.env = (false, eval b X.env) :: starEach [] X.env := by rfl) (he : starEach [a, b] X.env = (false, eval a X.env) :: starEach [b] X.env := by rfl) (hpl : (backTo pos (starEach [b] X.env)).any (·.1) = false := by rfl) : DE G X W (.Call (.Name "isinstance" p) [a, b] [] pos) (eIsi tb ow o1) := by
  obtain ⟨t1, p1, q1⟩ := ha
  refine DE.intro ⟨_, pe_callB call_isi hg hm (by decide +kernel) (pa_cons p1 (pa_cons ht pa_nil he0) he) (by decide) (by decide) he hpl, fun F σ H Hf ρ Q R p => ?_⟩
  refine q1 F σ H Hf ρ _ R ((PostE.bind p).imp fun a1 H1 Hf1 ρ1 _ R1 s1 p v r => ?_)
  obtain ⟨d, hd, q⟩ := lift_post (H := H1) p
  obtain ⟨bb, h1, rfl⟩ := Option.map_eq_some_iff.mp hd
  obtain ⟨d, h1, h2⟩ := Option.bind_eq_some_iff.mp h1
  obtain ⟨t, _, k2, k1⟩ := isi_ok kf h2
  have k1 := k1 ((ArgOk.rq R1 r h1).rp R1.sub)
  exact ⟨v, c, t, u, bb, rfl, hcls, hK ▸ k1, hK ▸ k2, q H1 Hf1 R1 (Same.refl _) _ (.bl _)⟩
end
end Spk
/-! list(zip(xs, ys)) of two lists -/
namespace Spk
open PySem PySem.Spec PyProof.Rows L2
/-- a zip that gave i tuples, the first of them at T and still there -/
structure ZSt (h : Heap) (z TI TO i1 i2 l1 l2 : Addr) (xs ys : Array Value) (i : Nat) (last : Option Addr) : Prop where
  zz : (last = none ∧ IsZip h z TI TO .none ∧ ∃ a b, IsPair h TO a b) ∨ ∃ T f o, last = some T ∧ IsZipHeld h z TI TO T f ∧ h.get? T = some o
  tO : ∃ o, h.get? TO = some o
  ti : IsPair h TI (.ref i1) (.ref i2)
  j1 : h.IsListIter i1 l1 i
  j2 : h.IsListIter i2 l2 i
  a1 : h.IsList l1 xs
  a2 : h.IsList l2 ys
section
variable {P : Program} {w : World} {A : Around} {R : Result → Shared → Prop} {z TI TO i1 i2 l1 l2 S : Addr} {xs ys : Array Value}
theorem ZSt.keep {h h' : Heap} {i : Nat} {last : Option Addr} (Z : ZSt h z TI TO i1 i2 l1 l2 xs ys i last) (hS : S ∉ [z, TI, TO, i1, i2, l1, l2]) (hl : last ≠ some S) (k : ∀ b o, b ≠ S → h.get? b = some o → h'.get? b = some o) : ZSt h' z TI TO i1 i2 l1 l2 xs ys i last := by
  obtain ⟨zz, ⟨u, hu⟩, ti, j1, j2, a1, a2⟩ := Z
  simp only [List.mem_cons, List.not_mem_nil, or_false, not_or] at hS
  obtain ⟨n1, n2, n3, n4, n5, n6, n7⟩ := hS
  refine ⟨?_, ⟨u, k _ _ (Ne.symm n3) hu⟩, k _ _ (Ne.symm n2) ti, j1.at fun o e => k _ o (Ne.symm n4) e, j2.at fun o e => k _ o (Ne.symm n5) e, a1.at fun o e => k _ o (Ne.symm n6) e, a2.at fun o e => k _ o (Ne.symm n7) e⟩
  rcases zz with ⟨e, hz, a, b, ho⟩ | ⟨T, f, o, e, hz, hT⟩
  · exact .inl ⟨e, k _ _ (Ne.symm n1) hz, a, b, k _ _ (Ne.symm n3) ho⟩
  · exact .inr ⟨T, f, o, e, k _ _ (Ne.symm n1) hz, k _ _ (fun q => hl (by rw [e, q])) hT⟩
end
end Spk
/-! tuple(zip(xs, ys)) of two lists -/
/-! sets of ints: made of a list, and sorted, any number of them -/
namespace Spk
open PySem PySem.Spec PyProof.Rows L2
/-- an empty set as set() makes it -/
def setOb (w : World) : Obj := { cls := .type "set", dict := none, data := .set #[] 0 (.fresh 0 0 (!w.params.followText "set-order")) }
end Spk
namespace Spk
open PySem PySem.Spec PyProof.Rows L2
theorem un65 {k : Nat} {A : Around} (h : Room k A) : A.units + 65 < cLine := by have := h.un; omega
/-! ### sets of ints, sorted -/
end Spk
namespace Spk
open PySem PySem.Spec PyProof.Rows L2
section
variable {G : Gx} {X : Cx} {W : WX} {x : Str} {p pos : Pos} {j : Nat}
theorem de_cst {e : Expr} {v : V} {d : D} (p : PE X e (tC v)) (r : ∀ Hf, Rp G Hf v d) : DE G X W e (eC d) := de_of (tC v) v d p r
theorem de_non : DE G X W (.Constant .none j pos) (eC .non) := de_cst pe_non fun _ => .non
theorem de_bl {b : Bool} : DE G X W (.Constant (.bool b) j pos) (eC (.bl b)) := de_cst pe_bl fun _ => .bl b
theorem de_int {i : Int} : DE G X W (.Constant (.int i) j pos) (eC (.int i)) := de_cst pe_int fun _ => .int i
theorem de_str {s : Str} (h : PyData.canLay0 (.str s) = true) : DE G X W (.Constant (.str s) j pos) (eC (.str s)) := de_cst pe_str fun _ => .str h
theorem de_half (h : EndsT X.K X.mg) (hg : Gl X "Ends") (hb : attributeBase (.Name "Ends" p) "HALF" X.env (eval (.Name "Ends" p) X.env) = eval (.Name "Ends" p) X.env := by rfl) : DE G X W (.Attribute (.Name "Ends" p) "HALF" pos) (eC (.str "half")) := de_cst (pe_half h hg hb) fun _ => .str (by decide +kernel)
theorem de_shut (h : EndsT X.K X.mg) (hg : Gl X "Ends") (hb : attributeBase (.Name "Ends" p) "SHUT" X.env (eval (.Name "Ends" p) X.env) = eval (.Name "Ends" p) X.env := by rfl) : DE G X W (.Attribute (.Name "Ends" p) "SHUT" pos) (eC (.str "shut")) := de_cst (pe_shut h hg hb) fun _ => .str (by decide +kernel)
end
end Spk
namespace Spk
open PySem PySem.Spec PyProof.Rows L2
section
variable {G : Gx} {X : Cx} {W : WX} {e o : Expr} {es : List Expr} {os : List Opd} {pos p apos : Pos} {x m : Str} {k j n : Nat} {ps : List Str} {fn : List Cell → Rs D} {f C : Addr} {fd : FuncData}
/-! ### classes made of any number of values, static methods -/
/-- x.p, p a property -/
def eProp (c : Str) (fn : List Cell → Rs D) (fo : EX) : EX := fun ρ => (fo ρ).bind fun d ρ1 => match d with
      | .ins C ks ds => if C = c then (appF 1 fn [] [.val (.ins C ks ds)] ρ1).nx else .bad
      | _ => .bad
theorem de_propE {c g : Str} {q : Addr} {fo : EX} (h : DE G X W o fo) (R : RdyPr X.prog X.w X.K X.mg X.base (G.cm c) g k (spD G 1 fn) q f fd) (hc : Cls X.K (G.cm c)) (rm : Room j X.A) (hj : k + 1 ≤ j) (hb : attributeBase o g X.env (eval o X.env) = eval o X.env := by rfl) :
    DE G X W (.Attribute o g pos) (eProp c fn fo) := de_prop h R hc rm hj hb
end
/-! ### defs with defaults that give new lists -/
end Spk
namespace Spk
open PySem PySem.Spec PyProof.Rows L2
/-! ### the end of a law over the pure layer -/
theorem FnG.imp {P : Program} {w : World} {K : PySem.W.Frag} {mg : Str → Option Value} {bh : Heap} {k : Nat} {f : Addr} {fd : FuncData} {ps : List Str} {sp sp' : Sp} (F : FnG P w K mg bh k f fd ps sp) (h : ∀ vs H Q E, sp' vs H Q E → sp vs H Q E) : FnG P w K mg bh k f fd ps sp' :=
  ⟨fun ws J R U z => F.lenG ws J R U (h _ _ _ _ z), fun B ou t J ar xs ws R U g rm e b v z => F.runG B ou t J ar xs ws R U g rm e b v (h _ _ _ _ z)⟩
def lawSp (K : PySem.W.Frag) : Sp := fun vs H Q _ => ∃ (a : Addr) (ns : List Int), vs = [.ref a] ∧ SqL K H a (ns.map V.int) ∧ ns.length ≤ 63 ∧ ∀ H', Q (.bl true) H'
/-- all but the tables -/
def noTbl (H : Hp) : Hp := fun b => match H b with
  | some (.tbl _) => none
  | o => o
theorem noTbl_of {H : Hp} {b : Addr} {o : HO} (h : H b = some o) (n : ∀ ps, o ≠ .tbl ps) : noTbl H b = some o := by
  unfold noTbl
  rw [h]
  cases o <;> first
    | rfl
    | exact absurd rfl (n _)
theorem noTbl_some {H : Hp} {b : Addr} {o : HO} (h : noTbl H b = some o) : H b = some o ∧ ∀ ps, o ≠ .tbl ps := by
  unfold noTbl at h
  split at h
  · cases h
  · rename_i n
    exact ⟨h, fun ps z => n ps (by rw [h, z])⟩
/-- the law's call where tables of code objects stand -/
def lawSpT (K : PySem.W.Frag) (cm : Str → Addr) (TT : List (Str × Str)) : Sp := fun vs H Q _ => ∃ (a : Addr) (ns : List Int), vs = [.ref a] ∧ SqL K H a (ns.map V.int) ∧ ns.length ≤ 63 ∧ TabsG (Gx.mk K cm none TT) H ∧ ∀ H', Q (.bl true) H'
theorem law_spT {K : PySem.W.Frag} {cm : Str → Addr} {TT : List (Str × Str)} {fn : List Cell → Rs D} (hf : ∀ ns : List Int, ns.length ≤ 63 → ∃ es, fn [.val (.scr ns)] = .ok (.bl true) es) : ∀ vs H Q E, lawSpT K cm TT vs H Q E → spD (Gx.mk K cm none TT) 1 fn vs H Q E := by
  rintro vs H Q E ⟨a, ns, rfl, hs, hl, tb, q⟩
  obtain ⟨es, he⟩ := hf ns hl
  have sub : Same (noTbl H) H := fun b o e => (noTbl_some e).1
  have sq : SqL K (noTbl H) a (ns.map V.int) := by
    rcases hs with h | h
    · exact .inl (h.imp (fun h => noTbl_of h (fun _ z => by cases z)) fun ⟨o, h⟩ => ⟨o, noTbl_of h (fun _ z => by cases z)⟩)
    · exact .inr h
  refine ⟨⟨fun _ => none, fun _ => a⟩, noTbl H, [.val (.scr ns)], rfl, ⟨rfl, sub, fun i c e => ?_, fun i j ci cj ds es p ei ej mi mj _ _ => ?_, (fun b o e => nomatch e), ⟨tb, (fun _ _ e => nomatch e), fun b ps e => (noTbl_some e).2 ps rfl⟩⟩, ?_⟩
  · match i, e with
    | 0, e =>
      obtain rfl := Option.some.inj (show some (Cell.val (.scr ns)) = some c from e)
      exact ⟨.ref a, rfl, .scr sq⟩
  · match i, ei with
    | 0, ei =>
      obtain rfl := Option.some.inj (show some (Cell.val (.scr ns)) = some ci from ei)
      cases mi
  · rw [he]
    intro H' Hf' R s v r
    cases r
    exact q H'
theorem law_sp {K : PySem.W.Frag} {cm : Str → Addr} {fn : List Cell → Rs D} (hf : ∀ ns : List Int, ns.length ≤ 63 → ∃ es, fn [.val (.scr ns)] = .ok (.bl true) es) : ∀ vs H Q E, lawSp K vs H Q E → spD (Gx.mk K cm none []) 1 fn vs H Q E := by
  rintro vs H Q E ⟨a, ns, rfl, hs, hl, q⟩
  exact law_spT hf _ H Q E ⟨a, ns, rfl, hs, hl, fun _ z => absurd z List.not_mem_nil, q⟩
theorem ow_of {G : Gx} {u : Value} {ow : List (Str × Bool)} (h : ∀ q ∈ ow, InsTy G q.1 ∧ PySem.W.kitOne G.K (.ref (G.cm q.1)) u = some q.2) : ∀ c b, ow.lookup c = some b → InsTy G c ∧ PySem.W.kitOne G.K (.ref (G.cm c)) u = some b := by
  intro a b e
  induction ow with
  | nil => cases e
  | cons q r ih =>
    obtain ⟨x, y⟩ := q
    rw [List.lookup_cons] at e
    by_cases c : a = x
    · subst c
      simp only [beq_self_eq_true] at e
      cases e
      exact h _ List.mem_cons_self
    · have : (a == x) = false := by simpa using c
      rw [this] at e
      exact ih (fun q hq => h q (List.mem_cons_of_mem _ hq)) e
theorem ty_of {K : PySem.W.Frag} {u : Value} {tb : List (String × Bool)} (h : ∀ q ∈ tb, PySem.W.kitOne K (.type q.1) u = some q.2) : ∀ a b, tb.lookup a = some b → PySem.W.kitOne K (.type a) u = some b := by
  intro a b e
  induction tb with
  | nil => cases e
  | cons q r ih =>
    obtain ⟨x, y⟩ := q
    rw [List.lookup_cons] at e
    by_cases c : a = x
    · subst c
      simp only [beq_self_eq_true] at e
      cases e
      exact h _ List.mem_cons_self
    · have : (a == x) = false := by simpa using c
      rw [this] at e
      exact ih (fun q hq => h q (List.mem_cons_of_mem _ hq)) e
def isTy : Value → Bool
  | .type _ => true
  | _ => false
/-- isinstance of a built-in's value by an own class: no -/
theorem kit_tyOwn {K : PySem.W.Frag} {C : Addr} {T : String} (hT : ((PySem.fastBuiltinMro T).map fun l => l.all isTy) = some true) (h2 : PySem.W.isClsIn K C = true) (h3 : PySem.W.typeIn K (.ref C) = some (.type "type")) : PySem.W.kitOne K (.type T) (.ref C) = some false := by
  have e : (Value.type T == Value.ref C) = false := rfl
  show (if (Value.type T == Value.ref C) = true then some true else PySem.W.kitCls K (.type T) (.ref C)) = some false
  rw [e, if_neg Bool.false_ne_true]
  refine kit_mk h2 h3 ?_
  show (PySem.fastBuiltinMro T).map (fun l => l.contains (Value.ref C)) = some false
  obtain ⟨l, h1, h2⟩ := Option.map_eq_some_iff.mp hT
  rw [h1, Option.map_some]
  congr 1
  rw [Bool.eq_false_iff]
  intro hc
  have hm : Value.ref C ∈ l := by simpa using hc
  have := List.all_eq_true.mp h2 _ hm
  cases this
end Spk
namespace Spk
open PySem PySem.Spec PyProof.Rows L2
/-! ### own ==, in, bool; is of truths -/
/-- what an own method of two tells, where it changes nothing -/
def ans2 (fn : List Cell → Rs D) (x y : D) : Option D := match fn [.val x, .val y] with
  | .ok d [_, _] => some d
  | _ => none
theorem ans2_of {fn : List Cell → Rs D} {x y d : D} (h : ans2 fn x y = some d) : ∃ c e, fn [.val x, .val y] = .ok d [c, e] := by
  unfold ans2 at h
  split at h
  · rename_i e; cases h; exact ⟨_, _, e⟩
  · cases h
theorem app2 {fn : List Cell → Rs D} {x y d : D} (h : ans2 fn x y = some d) (ρ : PEnv) : appF 2 fn [] [.val x, .val y] ρ = .ok d ρ := by
  obtain ⟨c, e, he⟩ := ans2_of h
  simp [appF, sls, cells, Arg.cell, he, wb]
def blOf : Option D → Option D
  | some (.bl b) => some (.bl b)
  | _ => none
theorem blOf_some {o : Option D} {d : D} (h : blOf o = some d) : ∃ b, o = some (.bl b) ∧ d = .bl b := by
  unfold blOf at h
  split at h
  · cases h; exact ⟨_, rfl, rfl⟩
  · cases h
section
variable {G : Gx} {X : Cx} {W : WX} {a : Expr} {k j : Nat} {f : Addr} {fn : List Cell → Rs D} {c e : Str} {pos : Pos} {fa : EX}
theorem run2 {F : Fr} {σ : L2.St} {H Hf : Hp} {ρ : PEnv} {v w : V} {x y d : D} {Q : VK} (R : Rep G F σ H Hf ρ) (rx : Rp G Hf v x) (ry : Rp G Hf w y) (h : ans2 fn x y = some d) (q : ∀ u H' Hf', Rep G F σ H' Hf' ρ → Same Hf Hf' → Rp G Hf' u d → Q u H') : spD G 2 fn [v, w] H Q E0 := by
  refine app_ok (vs := [v, w]) (as := [.val x, .val y]) (W := W0) R (.cons rx (.cons ry .nil)) .nil (fun _ _ _ _ _ h => h) ?_
  rw [app2 h]
  exact fun H' Hf' R' s u ru => q u H' Hf' R' s ru
theorem Rq.ins {H Hf : Hp} {v : V} {d : D} (h : Rq G H Hf v d) (c : isIns c d = true) : Rp G Hf v d := h.nl fun ds z => by rw [z] at c; cases c
end
end Spk
namespace Spk
open PySem PySem.Spec PyProof.Rows L2
/-- what the top must have left of an own error class over a built-in one -/
structure ErrG (K : PySem.W.Frag) (C : Addr) (f : Str) : Prop where
  cls : ∃ B ni ii bm, ExcBaseFacts B ni ii bm ∧ (∀ z, refuseLoop z "__setattr__" bm = pure ()) ∧ bm.contains (.type "object") = true ∧
    ∃ nm q N bs sn sub ab col dd k0 k1 k2 k3 k5, K.lookup C = some (excClassObj nm q C N bs bm true sn sub ab col dd k0 k1 k2 k3 k5 ni)
  sa : PySem.W.findIn K (.ref C) "__setattr__" = some (some (.builtin "object.__setattr__"))
  ga : PySem.W.findIn K (.ref C) "__getattribute__" = some (some (.builtin "BaseException.__getattribute__"))
  gg : PySem.W.findIn K (.ref C) "__getattr__" = some none
  nf : PySem.W.findIn K (.ref C) f = some none
  kC : PySem.W.keepIn K (.ref C) = true
  eC : PySem.W.subIn K (.ref C) (.type "BaseException") = some true
  tC : PySem.W.typeIn K (.ref C) = some (.type "type")
  hC : PySem.W.hasDictIn K C = true
  iC : PySem.W.isClsIn K C = true
  sC : PySem.W.subIn K (.ref C) (.ref C) = some true
theorem ErrG.xf {K : PySem.W.Frag} {C : Addr} {f : Str} (h : ErrG K C f) : XfC K C := ⟨h.ga, h.gg, h.eC, h.hC⟩
theorem ErrG.oex {K : PySem.W.Frag} {C : Addr} {f : Str} (h : ErrG K C f) : OexB K C := ⟨h.cls, h.sa, h.eC, h.tC, h.kC⟩
theorem ErrG.errB {K : PySem.W.Frag} {P : Program} {w : World} {mg : Str → Option Value} {bh : Heap} {x f qu : Str} {C fI : Addr} {fd : FuncData} {st : Stmt} {q1 q2 q3 q4 : Pos} (h : ErrG K C f) (gC : mg x = some (.ref C))
    (iC : PySem.W.findIn K (.ref C) "__init__" = some (some (.ref fI))) (tI : PySem.W.typeIn K (.ref fI) = some (.type "function")) (F : Fun K "__init__" qu st fI fd) (bd : Binds K fd ["self", f] [])
    (S : FnScope ["self", f] ["self", f] (defScope st)) (hb : defBody st = [.Assign [.Attribute (.Name "self" q1) f q2] (.Name f q3) q4]) (hf1 : (f == ("__debug__" : Str)) = false) (hf2 : (f == ("__classdict__" : Str)) = false)
    (v0 : (defScope st).names.lookup ("self" : Str) = some .local) (v1 : (defScope st).names.lookup f = some .local) : ErrB P w K mg bh x f C fI fd :=
  ⟨h.oex, h.xf, h.nf, iC, tI, gC, ok_initB F S h.oex h.nf hb hf1 hf2 v0 v1, bd⟩
/-! ### raise -/
section
variable {G : Gx} {X : Cx} {W : WX} {e : Expr} {pos p pos2 : Pos} {x f : Str} {fI : Addr} {fd : FuncData} {fe : EX} {c : Str} {k : Nat}
def sRaiseB (C f : Str) (fe : EX) : SX := fun ρ => Sr.of (fe ρ) fun d ρ1 => .exc C f d ρ1
theorem ds_raiseB (hc : X.calm = true) (T : ErrB X.prog X.w X.K X.mg X.base x f (G.cm c) fI fd) (rm : Room k X.A) (hk : 2 ≤ k) (tk : Takes X W) (hg : Gl X x) (he : DE G X W e fe) (hdb : (x == ("__debug__" : Str)) = false := by decide)
    (hs : starEach [e] X.env = (false, eval e X.env) :: starEach [] X.env := by rfl) (hpl : (backTo pos (starEach [] X.env)).any (·.1) = false := by rfl) :
    DS G X W (.Raise (some (.Call (.Name x p) [e] [] pos)) none pos2) (sRaiseB c f fe) := by
  obtain ⟨t, p1, q1⟩ := DE.elim he
  refine ⟨_, ps_raiseB hc T rm hk tk hg p1 hdb hs hpl, fun F σ H Hf ρ En R p => ?_⟩
  refine q1 F σ H Hf ρ _ R ((PostS.of p).imp fun d H1 Hf1 ρ1 _ R1 s1 p v r => ?_)
  have z := errK (C := G.cm c) (f := f) (v := v) (H1 := H1) (Q := fun cls d H' => W cls d σ H') fun dd nd => p v dd σ _ _ (R1.new nd (.xd [(f, v)])) (Same.new (R1.nf nd)) (r.mono (Same.new (R1.nf nd))) upd_same
  exact z
end
/-! ### another exception at hand -/
section
variable {K : PySem.W.Frag} {cm : Str → Addr} {TT : List (Str × Str)} {e e' : Option (Addr × Value × Option Addr)} {H Hf : Hp} {F : Fr} {σ : L2.St} {ρ : PEnv}
def Cell.noX : Cell → Bool
  | .exn _ _ _ => false
  | _ => true
def noExn (ρ : PEnv) : Bool := ρ.all Cell.noX
end
/-! ### try: .. except X as n: .. -/
structure CL where
  tb : List (Str × Bool)
  i : Nat
  f : SX
def dropX (i : Nat) (ρ : PEnv) (k : PEnv → Sr) : Sr := if noExn (ρ.set i .no) = true then k (ρ.set i .no) else .bad
def Sr.out (i : Nat) : Sr → Sr
  | .nx ρ => dropX i ρ .nx
  | .rt d ρ => dropX i ρ (.rt d)
  | .rf ds ρ => dropX i ρ (.rf ds)
  | .bk ρ => dropX i ρ .bk
  | .ct ρ => dropX i ρ .ct
  | _ => .bad
def exS : List CL → Str → Str → D → PEnv → Sr
  | [], C, g, d, ρ => .exc C g d ρ
  | k :: r, C, g, d, ρ => match k.tb.lookup C with
    | some true => if noExn ρ = true then (k.f (ρ.set k.i (.exn C g d))).out k.i else .bad
    | some false => exS r C g d ρ
    | none => .bad
def trS (cs : List CL) : Sr → Sr
  | .exc C g d ρ => exS cs C g d ρ
  | r => r
def sTry (f : SX) (cs : List CL) : SX := fun ρ => trS cs (f ρ)
def tDSs (G : Gx) (W : WX) (f : SX) : TS := fun En σ H => ∃ (F : Fr) (Hf : Hp) (ρ : PEnv), Rep G F σ H Hf ρ ∧ PostS G F W Hf En (f ρ)
theorem DSs.pss {G : Gx} {X : Cx} {W : WX} {sts : List Stmt} {f : SX} (h : DSs G X W sts f) : PSs X sts (tDSs G W f) := by
  obtain ⟨t, p, q⟩ := h
  exact ⟨fun pins s σ H En I ⟨F, Hf, ρ, R, z⟩ => p.run pins s σ H En I (q F σ H Hf ρ En R z)⟩
section
variable {K : PySem.W.Frag} {cm : Str → Addr} {TT : List (Str × Str)} {X : Cx} {W : WX} {bd : List Stmt} {h0 : ExceptHandler} {hds : List ExceptHandler} {pos : Pos} {f1 : SX}
inductive DCl (TT : List (Str × Str)) (K : PySem.W.Frag) (cm : Str → Addr) (X : Cx) : List ExceptHandler → List (CL × Value) → Prop
  | nil : DCl TT K cm X [] []
  | cons {x n : Str} {k : CL} {c : Value} {s0 : Stmt} {su : List Stmt} {np hp : Pos} {hds : List ExceptHandler} {l : List (CL × Value)} (hi : X.N[k.i]? = some n) (hln : X.env.kindOf n = some .local) (hc : Names X x c)
      (hx : ∀ C b, k.tb.lookup C = some b → PySem.W.exmOne K (.ref (cm C)) c = some b)
      (hs : ∀ (a : Addr) (oe : Obj) (cls : Value) (d : Option Addr) (pn : List (Addr × Obj)), Zc cls d oe → (∃ vs, oe.data = .fields vs) → DSs ⟨K, cm, some (a, cls, d), TT⟩ (X.suite a ((a, oe) :: pn)) W0 (s0 :: su) k.f)
      (r : DCl TT K cm X hds l) : DCl TT K cm X (.ExceptHandler (some (.Name x np)) (some n) (s0 :: su) hp :: hds) ((k, c) :: l)
def clOf (TT : List (Str × Str)) (K : PySem.W.Frag) (cm : Str → Addr) (l : List (CL × Value)) : List Cl := l.map fun q => ⟨q.2, q.1.i, fun a cls d => tDSs ⟨K, cm, some (a, cls, d), TT⟩ W0 q.1.f⟩
theorem DCl.ok {l : List (CL × Value)} (h : DCl TT K cm X hds l) : ClOk X hds (clOf TT K cm l) := by
  induction h with
  | nil => exact .nil
  | cons hi hln hc hx hs r ih => exact ClOk.cons hi hln hc (fun a oe cls d pn hz hf => (hs a oe cls d pn hz hf).pss) ih
/-- e.f -/
def eXf (i : Nat) (C g : Str) : EX := fun ρ => match ρ[i]? with
  | some (.exn C' f d) => if C' = C ∧ f = g then .ok d ρ else .bad
  | _ => .bad
/-- isinstance(e, T) -/
def eXis (i : Nat) (tb : List (Str × Bool)) : EX := fun ρ => match ρ[i]? with
  | some (.exn C _ _) => Rs.lift ((tb.lookup C).map .bl) ρ
  | _ => .bad
end
end Spk
namespace SpkX
open PySem PySem.W PySem.Calls PyProof.Rows
/-! ### signs between instances of two classes -/
section
variable {prog : Program} {w : World} {M : Model} {A : Around} {E : Value → Shared → Prop} {K : W.Frag} {C D : Addr} {cc cd : ClassData} {nm : String}
/-- x != y by x's own == -/
theorem ne_own {s : Shared} {x f : Addr} {ox : Obj} {dx : Option Obj} {b tb : Value} {Q : Value → Shared → Prop} (hu : A.units + 1 < cLine) (KI : K.In s.heap) (I : W.InstAt s.heap x ox C dx) (hb : W.Looks (model prog w) s.heap (typeOf b) tb) (hn : W.notFirst K C tb = true)
    (he : W.findIn K (.ref C) "__eq__" = some (some (.ref f))) (hf : W.isFn K (.ref f) = true) (h0 : W.findIn K (.ref C) "__ne__" = some (some (.builtin "object.__ne__"))) (hob : W.mroIn K C (.type "object") = some true)
    (go : wpAny (model prog w) A.in1 (call (.ref f) [.ref x, b]) (fun v s' => ∃ c, v = .bool c ∧ Q (.bool (!c)) s') E s) : wpAny (model prog w) A (richCompare .NotEq (.ref x) b) Q E s := by
  have one : wpAny (model prog w) A (tryCompare (.ref x) "__ne__" b) (fun r s' => ∃ v, r = some v ∧ Q v s') E s := by
    have S := PySem.F.cmp_object.ne
    have body : wpAny (model prog w) A (call (.builtin "object.__ne__") [.ref x, b]) (fun v s' => v ≠ .notImplemented ∧ Q v s') E s := by
      refine wpAny_call (codeAny_call_builtin S.plain PySem.F.cmpEntry_ne ?_)
      have sb : W.Looks (model prog w) s.heap (isInstance (.ref x) (.type "object")) true := I.type.andThen (W.looks_mroIn KI hob)
      refine @W.check_slot (model prog w) _ _ s "object.__ne__" "object" "__ne__" (.ref x) [b] [] _ PySem.F.cmpKind_ne PySem.F.cmpSplit_ne sb (PySem.F.cmpArgs_ne _ _) ?_
      unfold Builtin.«object.__ne__»
      refine wpAny_bind (wpAny_of_eq (a := ((Value.ref x : Value), [b])) (by first | rfl | (simp only [slotArgs]; rfl)) ?_)
      dsimp only
      refine wpAny_bind (wpAny_cRoomFor (by show A.units + 1 < cLine; exact hu) ?_)
      refine wpAny_bind (W.ifBound_K KI I he hf (wpAny_mono go (fun v s' hv => ?_) fun _ _ e => e))
      obtain ⟨c, rfl, hq⟩ := hv
      dsimp only
      refine wpAny_bind (wpAny_truthy_bool (wpAny_pure ?_))
      exact ⟨(fun z => by cases z), hq⟩
    have l1 := I.type (M := model prog w)
    have l2 := W.looks_findIn (M := model prog w) KI h0
    unfold tryCompare
    refine wpAny_bind ?_
    simp only [callSpecialIfBound?, bindSpecialIfBound?]
    refine wpAny_holding (wpAny_bind (wpAny_bind (wpAny_bind (l1.here (l2.here ?_)))))
    simp only [S.bind]
    have fin : wpAny (model prog w) A (call (.builtin "object.__ne__") ([.ref x] ++ [b]) >>= fun v => pure (some v)) (fun r s' => wpAny (model prog w) A (match r with
      | some .notImplemented | none => pure none
      | some v => pure (some v)) (fun r s' => ∃ v, r = some v ∧ Q v s') E s') E s := by
      refine wpAny_bind (wpAny_mono body (fun v s' z => wpAny_pure ?_) fun _ _ e => e)
      obtain ⟨nn, hq⟩ := z
      cases v <;> first | exact absurd rfl nn | exact wpAny_pure ⟨_, rfl, hq⟩
    refine wpAny_bind (wpAny_askSetting (wpAny_ite ?_))
    split
    · exact wpAny_bind (wpAny_pure (wpAny_pure fin))
    · exact wpAny_tryCatch (wpAny_bind (wpAny_pure (wpAny_pure fin)))
  have l1 := I.type (M := model prog w)
  unfold richCompare
  simp only [PySem.oneThing_ref]
  refine wpAny_holding (wpAny_bind (wpAny_cRoomFor (Nat.lt_of_succ_lt hu) ?_))
  refine wpAny_bind (l1.here (wpAny_bind (hb.here ?_)))
  split
  · rename_i q
    have e : W.subIn K tb (.ref C) = some false := by
      rcases Bool.or_eq_true_iff.mp hn with e | e
      · rw [beq_iff_eq.mp e] at q; simp at q
      · exact beq_iff_eq.mp e
    refine wpAny_bind ((W.looks_subIn KI e).here ?_)
    simp only [Bool.false_eq_true, if_false]
    refine wpAny_bind (wpAny_mono one (fun r s' z => ?_) fun _ _ e => e)
    obtain ⟨v, rfl, hq⟩ := z
    exact wpAny_pure hq
  · refine wpAny_bind (wpAny_pure ?_)
    simp only [Bool.false_eq_true, if_false]
    refine wpAny_bind (wpAny_mono one (fun r s' z => ?_) fun _ _ e => e)
    obtain ⟨v, rfl, hq⟩ := z
    exact wpAny_pure hq
end
end SpkX
namespace Spk
open PySem PySem.Spec PyProof.Rows L2
/-! ### own signs, own == with anything, what is raised at the caller's slots -/
theorem rel_ni : ∀ v : V, ¬ RelV v .notImplemented := fun v h => by
  cases v <;> first | (obtain ⟨t, z⟩ := h; cases z) | cases h
theorem passAt0 {X : Cx} {σ : L2.St} : PassesAt (L2.CX X.prog X.w) X σ E0 := fun _ _ _ _ _ _ ⟨_, _, _, _, _, _, _, _, _, _, _, _, h⟩ => h.elim
section
variable {X : Cx} {CX : CXT} {pins : List (Addr × Obj)} {σ : L2.St} {H : Hp} {s : Shared} {k j : Nat} {f C : Addr} {sp : Sp} {E : XK} {Q : VK} {us : List Value} {vs : List V}
theorem run_atX {A : Around} (F : FnR X.prog X.w X.K X.mg X.base CX k f sp) (rm : Room k A) (hf : A.frames = X.A.frames) (hx : PassesAt CX X σ E) (I : Inv X pins σ H s) (r : Vals vs us) (h : sp vs H Q E) :
    wpAny (model X.prog X.w) A (call (.ref f) us) (EP X pins σ Q) X.xe s := by
  have e := I.env0
  have e0 : Env0 X.prog X.w X.K X.mg X.base A X.stack s H := ⟨by rw [hf]; exact e.frames, e.mod, e.bs, e.bsz, e.funs, e.frf, e.hok, e.bare⟩
  refine wpAny_call (codeAny_mono (F A X.stack s H us vs Q E rm e0 r h) fun r s' hq => ?_)
  match r, hq with
  | .error e, hq => exact hx pins H s e s' I hq
  | .ok (.ret u), hq => exact I.after hq
  | .ok .next, hq => exact hq.elim
  | .ok .brk, hq => exact hq.elim
  | .ok .cont, hq => exact hq.elim
theorem back_of {w : Value} {s' : Shared} (h : EP X pins σ Q w s') : PySem.W.CmpBack (EP X pins σ Q) w s' := by
  unfold PySem.W.CmpBack
  split
  · obtain ⟨v, H', I', r, q⟩ := h
    exact rel_ni v r
  · exact h
theorem run_back (F : FnR X.prog X.w X.K X.mg X.base CX k f sp) (rm : Room j X.A) (hj : k ≤ j) (hx : PassesAt CX X σ E) (I : Inv X pins σ H s) (r : Vals vs us) (h : sp vs H Q E) : wpAny (model X.prog X.w) X.A (call (.ref f) us) (PySem.W.CmpBack (EP X pins σ Q)) X.xe s :=
  thn (run_atX F (rm.mono hj) rfl hx I r h) fun _ _ z => back_of z
end
theorem noref_T {K : PySem.W.Frag} {T : String} {C : Addr} (hT : ((PySem.fastBuiltinMro T).map fun l => l.all isTy) = some true) : PySem.W.subIn K (.type T) (.ref C) = some false := by
  show (PySem.fastBuiltinMro T).map (fun l => l.contains (Value.ref C)) = some false
  obtain ⟨l, h1, h2⟩ := Option.map_eq_some_iff.mp hT
  rw [h1, Option.map_some]
  congr 1
  rw [Bool.eq_false_iff]
  intro hc
  have hm : Value.ref C ∈ l := by simpa using hc
  have := List.all_eq_true.mp h2 _ hm
  cases this
section
variable {X : Cx} {CX : CXT} {k j : Nat} {f C D : Addr} {sp : Sp} {E : L2.St → XK} {op : Operator}
/-- x == y, y anything whose type is not below x's class -/
theorem op_eqAny (F : FnR X.prog X.w X.K X.mg X.base CX0 k f sp) (rm : Room j X.A) (hj : k ≤ j) (hs : PySem.W.findIn X.K (.ref C) "__eq__" = some (some (.ref f))) (hf : PySem.W.isFn X.K (.ref f) = true) :
    OpR X (compareOp .Eq) (fun x y H Q => ∃ a dx fs t, x = .ref a ∧ H a = some (.ins C dx fs) ∧ TyX X.K H y t ∧ PySem.W.notFirst X.K C t = true ∧ sp [x, y] H Q E0) := by
  intro pins s σ H x y v u Q I rx ry h
  obtain ⟨a, dx, fs, t, rfl, ha, ty, hn, hsp⟩ := h
  have rx0 := rx
  cases rx
  obtain ⟨P, kx, hP, _⟩ := kit_of I ry ty
  obtain ⟨mA, J, _⟩ := ins_get I.hok ha
  obtain ⟨od, J, _⟩ := J.look
  obtain ⟨m, hF⟩ := I.fr
  show wpAny (model X.prog X.w) X.A (richCompare .Eq (.ref a) u) (EP X pins σ Q) X.xe s
  refine PySem.W.cmp_K (op := .Eq) (tb := t) (rm.mono hj).units0 hF I.ok.mod.kin J (kx.ty _ _ I.kIn hP) hn hs hf ?_
  exact run_back F rm hj (fun _ _ _ _ _ _ h => h.elim) I (vs := [V.ref a, y]) (.cons rx0 (.cons ry .nil)) hsp
/-- x != y by x's own == -/
theorem op_neAny (F : FnR X.prog X.w X.K X.mg X.base CX0 k f sp) (rm : Room j X.A) (hj : k + 1 ≤ j) (hs : PySem.W.findIn X.K (.ref C) "__eq__" = some (some (.ref f))) (hf : PySem.W.isFn X.K (.ref f) = true) (h0 : PySem.W.findIn X.K (.ref C) "__ne__" = some (some (.builtin "object.__ne__"))) (hob : PySem.W.mroIn X.K C (.type "object") = some true) :
    OpR X (compareOp .NotEq) (fun x y H Q => ∃ a dx fs t, x = .ref a ∧ H a = some (.ins C dx fs) ∧ TyX X.K H y t ∧ PySem.W.notFirst X.K C t = true ∧ sp [x, y] H (fun v H' => ∃ c, v = .bl c ∧ Q (.bl (!c)) H') E0) := by
  intro pins s σ H x y v u Q I rx ry h
  obtain ⟨a, dx, fs, t, rfl, ha, ty, hn, hsp⟩ := h
  have rx0 := rx
  cases rx
  obtain ⟨P, kx, hP, _⟩ := kit_of I ry ty
  obtain ⟨mA, J, _⟩ := ins_get I.hok ha
  obtain ⟨od, J, _⟩ := J.look
  have rm1 := (rm.mono hj).in1
  show wpAny (model X.prog X.w) X.A (richCompare .NotEq (.ref a) u) (EP X pins σ Q) X.xe s
  refine SpkX.ne_own (by have := rm1.un; show X.A.in1.units < cLine; omega) I.kIn J (kx.ty _ _ I.kIn hP) hn hs hf h0 hob ?_
  refine thn (run_atX F rm1 rfl (fun _ _ _ _ _ _ h => h.elim) I (vs := [V.ref a, y]) (.cons rx0 (.cons ry .nil)) hsp) fun w s' z => ?_
  obtain ⟨v, H', I', r, c, rfl, q⟩ := z
  exact ⟨c, r, .bl (!c), H', I', rfl, q⟩
end
/-! ### over data -/
/-- the operands that == is asked of -/
def eqOk (es : List Str) : D → Bool
  | .ins e _ _ => es.contains e
  | .lst _ => false
  | .scr _ => false
  | _ => true
structure NfF (G : Gx) (c : Str) (es : List Str) : Prop where
  ow : ∀ e ∈ es, InsTy G e ∧ PySem.W.notFirst G.K (G.cm c) (.ref (G.cm e)) = true
def blNot : Option D → Option D
  | some (.bl b) => some (.bl (!b))
  | _ => none
theorem blNot_some {o : Option D} {d : D} (h : blNot o = some d) : ∃ b, o = some (.bl b) ∧ d = .bl (!b) := by
  unfold blNot at h
  split at h
  · cases h; exact ⟨_, rfl, rfl⟩
  · cases h
def ownEq (c : Str) (es : List Str) (fn : List Cell → Rs D) (x y : D) : Option D := if isIns c x = true ∧ eqOk es y = true then blOf (ans2 fn x y) else none
def ownNe (c : Str) (es : List Str) (fn : List Cell → Rs D) (x y : D) : Option D := if isIns c x = true ∧ eqOk es y = true then blNot (ans2 fn x y) else none
theorem not_of_type {K : PySem.W.Frag} {T : String} {C : Addr} (hT : ((PySem.fastBuiltinMro T).map fun l => l.all isTy) = some true) : PySem.W.notFirst K C (.type T) = true := by
  unfold PySem.W.notFirst
  rw [noref_T hT]
  simp
theorem eq_ty {G : Gx} {c : Str} {es : List Str} {y : D} (nf : NfF G c es) (h : eqOk es y = true) : ∃ t, PySem.W.notFirst G.K (G.cm c) t = true ∧ ∀ {H : Hp} {v : V}, Rp G H v y → TyX G.K H v t := by
  cases y with
  | ins e ks ds =>
    obtain ⟨I, n⟩ := nf.ow e (by simpa [eqOk] using h)
    exact ⟨_, n, fun r => ty_rp (fun _ _ _ z => by cases z; exact I) r rfl⟩
  | lst ds => cases h
  | scr ns => cases h
  | non => exact ⟨_, not_of_type (T := "NoneType") (by decide +kernel), fun r => ty_rp (fun _ _ _ e => by cases e) r rfl⟩
  | bl _ => exact ⟨_, not_of_type (T := "bool") (by decide +kernel), fun r => ty_rp (fun _ _ _ e => by cases e) r rfl⟩
  | int _ => exact ⟨_, not_of_type (T := "int") (by decide +kernel), fun r => ty_rp (fun _ _ _ e => by cases e) r rfl⟩
  | str _ => exact ⟨_, not_of_type (T := "str") (by decide +kernel), fun r => ty_rp (fun _ _ _ e => by cases e) r rfl⟩
  | tup _ => exact ⟨_, not_of_type (T := "tuple") (by decide +kernel), fun r => ty_rp (fun _ _ _ e => by cases e) r rfl⟩
theorem eqOk_nl {es : List Str} {y : D} (h : eqOk es y = true) : ∀ ds, y ≠ .lst ds := fun ds e => by subst e; cases h
section
variable {G : Gx} {X : Cx} {W : WX} {a b : Expr} {k j : Nat} {f : Addr} {fn : List Cell → Rs D} {c d : Str} {es : List Str} {pos : Pos} {fa fb : EX} {op : Operator}
theorem od_eqAny (R : RdyOp X.prog X.w X.K X.mg X.base (G.cm c) "__eq__" k (spD G 2 fn) f) (rm : Room j X.A) (hj : k ≤ j) (nf : NfF G c es) (hK : X.K = G.K := by rfl) : OpD G X (compareOp .Eq) (ownEq c es fn) := by
  refine ⟨_, op_eqAny R.ok rm hj R.at_ R.fn, fun F σ H Hf ρ v w x y d Q R0 rx ry h q => ?_⟩
  obtain ⟨cc, h⟩ := (show (isIns c x = true ∧ eqOk es y = true) ∧ blOf (ans2 fn x y) = some d by unfold ownEq at h; split at h; exact ⟨by assumption, h⟩; cases h)
  obtain ⟨b, h0, rfl⟩ := blOf_some h
  have rx := rx.ins cc.1
  have ry := ry.nl (eqOk_nl cc.2)
  obtain ⟨a1, dx, fs, e1, h1⟩ := ins_of rx cc.1
  obtain ⟨t, n, ty⟩ := eq_ty nf cc.2
  exact ⟨a1, dx, fs, t, e1, R0.sub _ _ h1, hK ▸ ty (ry.mono R0.sub), hK ▸ n, run2 R0 rx ry h0 fun u H' Hf' R' s ru => q u H' Hf' R' s ru⟩
theorem od_neAny (R : RdyOp X.prog X.w X.K X.mg X.base (G.cm c) "__eq__" k (spD G 2 fn) f) (rm : Room j X.A) (hj : k + 1 ≤ j) (nf : NfF G c es) (h0 : PySem.W.findIn X.K (.ref (G.cm c)) "__ne__" = some (some (.builtin "object.__ne__"))) (hob : PySem.W.mroIn X.K (G.cm c) (.type "object") = some true) (hK : X.K = G.K := by rfl) : OpD G X (compareOp .NotEq) (ownNe c es fn) := by
  refine ⟨_, op_neAny R.ok rm hj R.at_ R.fn h0 hob, fun F σ H Hf ρ v w x y d Q R0 rx ry h q => ?_⟩
  obtain ⟨cc, h⟩ := (show (isIns c x = true ∧ eqOk es y = true) ∧ blNot (ans2 fn x y) = some d by unfold ownNe at h; split at h; exact ⟨by assumption, h⟩; cases h)
  obtain ⟨b, h0, rfl⟩ := blNot_some h
  have rx := rx.ins cc.1
  have ry := ry.nl (eqOk_nl cc.2)
  obtain ⟨a1, dx, fs, e1, h1⟩ := ins_of rx cc.1
  obtain ⟨t, n, ty⟩ := eq_ty nf cc.2
  exact ⟨a1, dx, fs, t, e1, R0.sub _ _ h1, hK ▸ ty (ry.mono R0.sub), hK ▸ n, run2 R0 rx ry h0 fun u H' Hf' R' s ru => ⟨b, rp_b ru, q _ H' Hf' R' s (.bl _)⟩⟩
/-- signs of instances; what is raised goes on -/
def eOpX (t : D → D → Bool) (sw : Bool) (fn : List Cell → Rs D) (fa fb : EX) : EX := fun ρ => (fa ρ).bind fun x ρ1 => (fb ρ1).bind fun y ρ2 => if t x y = true then (if sw = true then appF 2 fn [] [.val y, .val x] ρ2 else appF 2 fn [] [.val x, .val y] ρ2) else .bad
/-- the same where nothing is let out -/
def eOpN (t : D → D → Bool) (sw : Bool) (fn : List Cell → Rs D) (fa fb : EX) : EX := fun ρ => (fa ρ).bind fun x ρ1 => (fb ρ1).bind fun y ρ2 => if t x y = true then (if sw = true then appF 2 fn [] [.val y, .val x] ρ2 else appF 2 fn [] [.val x, .val y] ρ2).nx else .bad
def isI : D → Bool
  | .int _ => true
  | _ => false
def tI (c : Str) (x y : D) : Bool := isIns c x && isI y
def t2 (c d : Str) (x y : D) : Bool := isIns c x && isIns d y
end
end Spk
namespace Spk
open PySem PySem.Spec PyProof.Rows L2
/-! ### constants of a class -/
section
variable {G : Gx} {X : Cx} {W : WX} {e o : Expr} {es : List Expr} {os ks : List Opd} {pos p apos : Pos} {x m c g : Str} {k j n : Nat} {ps : List Str} {fn : List Cell → Rs D} {f : Addr} {fd : FuncData} {fo : EX}
def eConI (c g : Str) (i : Int) (fo : EX) : EX := fun ρ => (fo ρ).bind fun d ρ1 => match d with
  | .ins C ks ds => if C = c ∧ (ks.zip ds).lookup g = none then .ok (.int i) ρ1 else .bad
  | _ => .bad
/-! ### methods -/
/-- how a call gives the values that lack -/
def Fill (K : PySem.W.Frag) (fd : FuncData) (ps : List Str) (dvs : List V) : Prop := ∃ ds, Vals dvs ds ∧ Binds K fd ps ds
structure RdyMm (P : Program) (w : World) (K : PySem.W.Frag) (mg : Str → Option Value) (bh : Heap) (C : Addr) (m : Str) (k : Nat) (ps : List Str) (sp : Sp) (f : Addr) (fd : FuncData) : Prop where
  ok : FnOk P w K mg bh (L2.CX P w) k f fd ps sp
  mt : Meth K C m f
  cl : Cls K C
def tMethD (C : Addr) (m : Str) (sp : Sp) (dvs : List V) (E : L2.St → XK) (ta : TE) (t : TA) : TE := fun σ H Q => ta σ H fun x H1 => ∃ a dx fs, x = .ref a ∧ H1 a = some (.ins C dx fs) ∧ fs.lookup m = none ∧ t σ H1 fun vs H2 => sp (x :: (vs ++ dvs)) H2 Q (E σ)
theorem pe_methD {C : Addr} {sp : Sp} {dvs : List V} {E : L2.St → XK} {ta : TE} {t : TA} {pl : Sem Bool} (R : RdyMm X.prog X.w X.K X.mg X.base C m k ps sp f fd) (fl : Fill X.K fd ps dvs) (rm : Room j X.A) (hj : k ≤ j) (he : PE X o ta) (hx : ∀ σ, PassesAt (L2.CX X.prog X.w) X σ (E σ)) (ha : PA X (e :: es) t)
    (hst : starEach (e :: es) X.env = (false, eval e X.env) :: starEach es X.env := by rfl) (hpl : (backTo pos (starEach es X.env)).any (·.1) = false := by rfl)
    (ht : eval (.Call (.Attribute o m apos) (e :: es) [] pos) X.env = (do
      let ov ← eval o X.env
      standAt apos.atName
      let (f, first) ← holding [ov] (getMethod ov m pl)
      callWith pos f first (backTo pos (starEach (e :: es) X.env)) (backToKw pos (keywordEach [] X.env))) := by rfl) :
    PE X (.Call (.Attribute o m apos) (e :: es) [] pos) (tMethD C m sp dvs E ta t) := by
  obtain ⟨ds, hv, bd⟩ := fl
  refine ⟨fun pins s σ H Q I h => ?_⟩
  refine PySem.W.methodCall_KW (pl := pl) (thn (he.run pins s σ H _ I h) fun u s1 z => ?_) ht
  obtain ⟨x, H1, I1, rx, a, dx, fs, ex, ea, l, q⟩ := z
  subst ex
  obtain rfl : u = Value.ref a := rx
  refine getmeth_ok I1 ea R.cl R.mt l ?_
  refine PySem.W.callWith_K (first := [.ref a]) (h₀ := X.base) I.ok.mod.kin R.mt.kp (thn (ha.run pos pins s1 σ H1 _ I1 q) fun us s2 z => ?_) hst hpl
  obtain ⟨vs, H2, I2, r, q2⟩ := z
  exact ⟨I2.kIn, run_fnSD (us := .ref a :: us) (vs := .ref a :: vs) R.ok (rm.mono hj) bd hv (hx σ) I2 (.cons rfl r) (by simpa using q2)⟩
def noKey (m : Str) : D → Bool
  | .ins _ ks ds => ((ks.zip ds).lookup m).isNone
  | _ => false
/-- o.m(..), what m raises goes on; nothing is let out -/
def eMethX (n : Nat) (fn : List Cell → Rs D) (c m : Str) (dfl : List D) (fo : EX) (os : List Opd) : EX := fun ρ => (fo ρ).bind fun d ρ1 => if isIns c d = true ∧ noKey m d = true then (evs os ρ1).bind fun as ρ2 => appF n fn dfl (.val d :: as) ρ2 else .bad
def eMethN (n : Nat) (fn : List Cell → Rs D) (c m : Str) (dfl : List D) (fo : EX) (os : List Opd) : EX := fun ρ => (fo ρ).bind fun d ρ1 => if isIns c d = true ∧ noKey m d = true then (evs os ρ1).bind fun as ρ2 => (appF n fn dfl (.val d :: as) ρ2).nx else .bad
theorem key_of {H : Hp} {v : V} {d : D} (r : Rp G H v d) (h : isIns c d = true ∧ noKey m d = true) : ∃ a dx fs, v = .ref a ∧ H a = some (.ins (G.cm c) dx fs) ∧ fs.lookup m = none := by
  cases r <;> try cases h.1
  rename_i h0 l rl
  obtain rfl := eq_of_beq h.1
  exact ⟨_, _, _, rfl, h0, rl.lookN l (by simpa [noKey] using h.2)⟩
theorem de_methN {dvs : List V} {dfl : List D} {pl : Sem Bool} (h : DE G X W o fo) (R : RdyMm X.prog X.w X.K X.mg X.base (G.cm c) m k ps (spD G n fn) f fd) (fl : Fill X.K fd ps dvs) (rm : Room j X.A) (hj : k ≤ j) (ha : DA G X W (e :: es) os) (rd : ∀ Hf, RpL G Hf dvs dfl)
    (hst : starEach (e :: es) X.env = (false, eval e X.env) :: starEach es X.env := by rfl) (hpl : (backTo pos (starEach es X.env)).any (·.1) = false := by rfl)
    (ht : eval (.Call (.Attribute o m apos) (e :: es) [] pos) X.env = (do
      let ov ← eval o X.env
      standAt apos.atName
      let (f, first) ← holding [ov] (getMethod ov m pl)
      callWith pos f first (backTo pos (starEach (e :: es) X.env)) (backToKw pos (keywordEach [] X.env))) := by rfl) : DE G X W (.Call (.Attribute o m apos) (e :: es) [] pos) (eMethN n fn c m dfl fo os) := by
  obtain ⟨t1, p1, q1⟩ := DE.elim h
  obtain ⟨t2, p2, q2⟩ := ha
  refine DE.intro ⟨_, pe_methD R fl rm hj p1 (fun σ => passAt0) p2 hst hpl ht, fun F σ H Hf ρ Q Rr p => ?_⟩
  refine q1 F σ H Hf ρ _ Rr ((PostE.bind p).imp fun d H1 Hf1 ρ1 _ R1 s1 p v r => ?_)
  by_cases cc : isIns c d = true ∧ noKey m d = true
  · rw [if_pos cc] at p
    obtain ⟨a, dx, fs, ev, ha, hl⟩ := key_of r cc
    refine ⟨a, dx, fs, ev, R1.sub _ _ ha, hl, q2 F σ H1 Hf1 ρ1 _ R1 ((PostE.bind p).imp fun as H2 Hf2 ρ2 _ R2 s2 p vs rs => ?_)⟩
    have z := app_ok (vs := v :: vs) (as := .val d :: as) (W := W0) (Qr := Qdat G) R2 (.cons (show ArgOk G σ Hf2 v (.val d) from r.mono s2) rs) (rd Hf2) (fun _ _ _ _ _ h => h) (PostE.nx (W := W) p)
    exact z
  · rw [if_neg cc] at p; exact p.elim
end
/-! ### making an instance, raising or not, with defaults and keywords -/
structure RdyMkX (P : Program) (w : World) (K : PySem.W.Frag) (mg : Str → Option Value) (bh : Heap) (x : Str) (C : Addr) (k : Nat) (ps : List Str) (sp : Sp) (f : Addr) (fd : FuncData) : Prop where
  ok : FnOk P w K mg bh (L2.CX P w) k f fd ps sp
  mkr : Mk K C f
  gl : mg x = some (.ref C)
/-- how a call with n values and keywords binds -/
def FillK (K : PySem.W.Frag) (fd : FuncData) (ps : List Str) (n : Nat) (ks : List Str) (gV : List V → List V → List V) : Prop := ∃ g, KBn K fd ps n ks g gV
section
variable {X : Cx} {k j : Nat} {C f : Addr} {fd : FuncData} {ps ks : List Str} {sp : Sp} {E : L2.St → XK} {x : Str} {e : Expr} {es : List Expr} {t tk : TA} {p pos : Pos} {kws : List Keyword}
theorem run_mkG {pins : List (Addr × Obj)} {σ : L2.St} {H : Hp} {s : Shared} {Q : VK} {us : List Value} {kw : List (Str × Value)} {al : Value → List Value} {av : V → List V} (M : Mk X.K C f) (F : FnOk X.prog X.w X.K X.mg X.base (L2.CX X.prog X.w) k f fd ps sp) (hr : Room (k + 1) X.A)
    (hb : ∀ (a : Addr) (s : Shared), X.K.In s.heap → BindsTo s fd ⟨.ref a :: us, kw⟩ (ps.zip (al (.ref a)))) (rv : ∀ a : Addr, Vals (av (.ref a)) (al (.ref a))) (hx : PassesAt (L2.CX X.prog X.w) X σ (E σ)) (I : Inv X pins σ H s)
    (h : ∀ x dx, H x = none → H dx = none → dx ≠ x → sp (av (.ref x)) (upd (upd H dx (.own x)) x (.ins C dx [])) (fun v H2 => v = .non ∧ Q (.ref x) H2) (E σ)) :
    wpAny (model X.prog X.w) X.A (call (.ref C) us kw) (EP X pins σ Q) X.xe s := by
  have hq := h (s.heap.objs.size + 1) s.heap.objs.size (I.hok.fresh (Nat.le_succ _)) (I.hok.fresh (Nat.le_refl _)) (Nat.ne_of_lt (Nat.lt_succ_self _))
  have I2 := Inv.made (C := C) I
  refine wpAny_call (make_map (f := f) I.kIn M.makes M.init (beq_iff_eq.mp M.fn) (codeAny_mono (F.run _ X.stack _ _ ⟨Value.ref (s.heap.objs.size + 1) :: us, kw⟩ (al (Value.ref (s.heap.objs.size + 1))) _ _ (E σ) (hr.make C us kw)
    (I2.env0.make C us kw) (hb _ _ I2.kIn) (rv _) hq) fun r s' z => ?_))
  match r, z with
  | .error er, z => exact hx pins _ _ er s' I2 z
  | .ok (.ret u), z =>
    obtain ⟨v, H', I3, rv, ev, q3⟩ := I2.after z
    subst ev
    exact ⟨rv, ⟨V.ref (s.heap.objs.size + 1), H', I3, rfl, q3⟩⟩
  | .ok .next, z => exact z.elim
  | .ok .brk, z => exact z.elim
  | .ok .cont, z => exact z.elim
def tMkD (C : Addr) (sp : Sp) (dvs : List V) (E : L2.St → XK) (t : TA) : TE := fun σ H Q => t σ H fun vs H1 => ∀ x dx, H1 x = Option.none → H1 dx = Option.none → dx ≠ x → sp (.ref x :: (vs ++ dvs)) (upd (upd H1 dx (.own x)) x (.ins C dx [])) (fun v H2 => v = .non ∧ Q (.ref x) H2) (E σ)
theorem pe_mkD {dvs : List V} (R : RdyMkX X.prog X.w X.K X.mg X.base x C k ps sp f fd) (fl : Fill X.K fd ps dvs) (rm : Room j X.A) (hj : k + 1 ≤ j) (hg : Gl X x) (hx : ∀ σ, PassesAt (L2.CX X.prog X.w) X σ (E σ)) (ha : PA X (e :: es) t) (hdb : (x == ("__debug__" : Str)) = false := by decide)
    (he : starEach (e :: es) X.env = (false, eval e X.env) :: starEach es X.env := by rfl) (hpl : (backTo pos (starEach es X.env)).any (·.1) = false := by rfl) : PE X (.Call (.Name x p) (e :: es) [] pos) (tMkD C sp dvs E t) := by
  obtain ⟨ds, hv, bd⟩ := fl
  refine ⟨fun pins s σ H Q I h => ?_⟩
  refine wpAny_Call_Name_kw (ld_glob I hg R.gl ?_ hdb)
  refine PySem.W.callWith_K (h₀ := X.base) I.ok.mod.kin R.mkr.kp (thn (ha.run pos pins s σ H _ I h) fun us s1 z => ?_) he hpl
  obtain ⟨vs, H1, I1, r, q⟩ := z
  refine ⟨I1.kIn, ?_⟩
  have rv : ∀ a : Addr, Vals (V.ref a :: (vs ++ dvs)) (Value.ref a :: us ++ ds) := fun a => .cons rfl (r.append hv)
  have hq0 := q (s1.heap.objs.size + 1) s1.heap.objs.size (I1.hok.fresh (Nat.le_succ _)) (I1.hok.fresh (Nat.le_refl _)) (Nat.ne_of_lt (Nat.lt_succ_self _))
  have hl : ∀ a : Addr, (Value.ref a :: us ++ ds).length = ps.length := fun a => by
    have e1 := (rv a).length
    have e2 := R.ok.len _ _ _ _ hq0
    simp only [List.length_cons] at e1 e2 ⊢
    omega
  exact run_mkG (av := fun v => v :: (vs ++ dvs)) (al := fun v => v :: us ++ ds) R.mkr R.ok (rm.mono hj) (fun a s kin => bd s (Value.ref a :: us) kin (hl a)) rv (hx σ) I1 q
def tMkK (C : Addr) (n m : Nat) (sp : Sp) (gV : List V → List V → List V) (E : L2.St → XK) (t tk : TA) : TE := fun σ H Q => t σ H fun vs H1 => tk σ H1 fun zs H2 => vs.length = n ∧ zs.length = m ∧ ∀ x dx, H2 x = Option.none → H2 dx = Option.none → dx ≠ x →
  sp (gV (.ref x :: vs) zs) (upd (upd H2 dx (.own x)) x (.ins C dx [])) (fun v H3 => v = .non ∧ Q (.ref x) H3) (E σ)
theorem pe_mkK {n : Nat} {gV : List V → List V → List V} (R : RdyMkX X.prog X.w X.K X.mg X.base x C k ps sp f fd) (fl : FillK X.K fd ps (n + 1) ks gV) (rm : Room j X.A) (hj : k + 1 ≤ j) (hg : Gl X x) (hx : ∀ σ, PassesAt (L2.CX X.prog X.w) X σ (E σ)) (ha : PA X (e :: es) t) (hkw : PK X kws tk)
    (hall : (backToKw pos (keywordEach kws X.env)).all (·.1.isSome) = true := by rfl) (hks : (backToKw pos (keywordEach kws X.env)).filterMap (·.1) = ks := by rfl) (hdb : (x == ("__debug__" : Str)) = false := by decide)
    (he : starEach (e :: es) X.env = (false, eval e X.env) :: starEach es X.env := by rfl) (hpl : ((backTo pos (starEach (e :: es) X.env)).any (·.1) || (backToKw pos (keywordEach kws X.env)).any (·.1.isNone)) = false := by rfl) :
    PE X (.Call (.Name x p) (e :: es) kws pos) (tMkK C n ks.length sp gV E t tk) := by
  obtain ⟨g, hb⟩ := fl
  refine ⟨fun pins s σ H Q I h => ?_⟩
  refine wpAny_Call_Name_kw (ld_glob I hg R.gl ?_ hdb)
  refine PySem.W.callWith_KW (h₀ := X.base) I.ok.mod.kin R.mkr.kp hall (thn (ha.run pos pins s σ H _ I h) fun us s1 z => ?_) hpl he
  obtain ⟨vs, H1, I1, r, q⟩ := z
  refine thn (hkw.run pos pins s1 σ H1 _ I1 q) fun ws s2 z => ?_
  obtain ⟨zs, H2, I2, rz, l1, l2, q2⟩ := z
  refine ⟨I2.kIn, ?_⟩
  rw [hks]
  have n1 : ∀ a : Addr, (Value.ref a :: us).length = n + 1 := fun a => by rw [List.length_cons, ← r.length, l1]
  exact run_mkG (av := fun v => gV (v :: vs) zs) (al := fun v => g (v :: us) ws) R.mkr R.ok (rm.mono hj) (fun a s kin => hb.to s (Value.ref a :: us) ws kin (n1 a) (rz.length.symm.trans l2)) (fun a => hb.rel (.cons rfl r) rz) (hx σ) I2 q2
end
section
variable {G : Gx} {X : Cx} {W : WX} {e : Expr} {es : List Expr} {os kos : List Opd} {p pos : Pos} {x c : Str} {k j n : Nat} {ps : List Str} {fn : List Cell → Rs D} {f : Addr} {fd : FuncData} {kws : List Keyword} {dvs : List V} {dfl : List D}
/-- keywords' values -/
def DK (G : Gx) (X : Cx) (W : WX) (kws : List Keyword) (os : List Opd) : Prop := ∃ t, PK X kws t ∧ ∀ (F : Fr) (σ : L2.St) (H Hf : Hp) (ρ : PEnv) (Q : List V → Hp → Prop), Rep G F σ H Hf ρ →
  PostE G F W σ Hf (fun as H' Hf' _ => ∀ vs, ArgsOk G σ Hf' vs as → Q vs H') (evs os ρ) → t σ H Q
theorem dk_nil : DK G X W [] [] := ⟨_, pk_nil, fun F σ H Hf ρ Q R p => p H Hf R (Same.refl _) [] .nil⟩
theorem dk_cons {nm : Option Str} {kpos : Pos} {o : Opd} (h : DO G X W e o) (t : DK G X W kws kos) : DK G X W (⟨nm, e, kpos⟩ :: kws) (o :: kos) := by
  obtain ⟨t1, p1, q1⟩ := h
  obtain ⟨t2, p2, q2⟩ := t
  refine ⟨_, pk_cons p1 p2, fun F σ H Hf ρ Q R p => ?_⟩
  refine q1 F σ H Hf ρ _ R ((PostE.bind p).imp fun a H1 Hf1 ρ1 _ R1 s1 p v r => ?_)
  refine q2 F σ H1 Hf1 ρ1 _ R1 ((PostE.bind p).imp fun as H2 Hf2 ρ2 _ R2 s2 p vs rs => ?_)
  exact p H2 Hf2 R2 (Same.refl _) (v :: vs) (.cons (r.mono s2) rs)
def eMkX (n : Nat) (fn : List Cell → Rs D) (c : Str) (dfl : List D) (os : List Opd) : EX := fun ρ => (evs os ρ).bind fun as ρ1 => mkE n fn c dfl as ρ1
theorem de_mkN (R : RdyMkX X.prog X.w X.K X.mg X.base x (G.cm c) k ps (spD G n fn) f fd) (fl : Fill X.K fd ps dvs) (rm : Room j X.A) (hj : k + 1 ≤ j) (hg : Gl X x) (ha : DA G X W (e :: es) os) (rd : ∀ Hf, RpL G Hf dvs dfl) (hdb : (x == ("__debug__" : Str)) = false := by decide)
    (he : starEach (e :: es) X.env = (false, eval e X.env) :: starEach es X.env := by rfl) (hpl : (backTo pos (starEach es X.env)).any (·.1) = false := by rfl) : DE G X W (.Call (.Name x p) (e :: es) [] pos) (eMk n fn c dfl os) := by
  obtain ⟨t1, p1, q1⟩ := ha
  refine DE.intro ⟨_, pe_mkD R fl rm hj hg (fun σ => passAt0) p1 hdb he hpl, fun F σ H Hf ρ Q R p => ?_⟩
  refine q1 F σ H Hf ρ _ R ((PostE.bind p).imp fun as H1 Hf1 ρ1 _ R1 s1 p vs rs a dx na nd ne => ?_)
  exact make_ok (W := W0) R1 rs (rd Hf1) (PostE.nx (W := W) p) na nd ne
/-- keywords: gA puts the values in the parameters' order -/
def Arr (G : Gx) (n m : Nat) (gV : List V → List V → List V) (gA : List Arg → List Arg → List Arg) : Prop := ∀ (σ : L2.St) (Hf : Hp) (v : V) (vs zs : List V) (as bs : List Arg), vs.length = n → zs.length = m → ArgsOk G σ Hf vs as → ArgsOk G σ Hf zs bs → ∃ ws, gV (v :: vs) zs = v :: ws ∧ ArgsOk G σ Hf ws (gA as bs)
theorem ArgsOk.app {σ : L2.St} {Hf : Hp} {zs : List V} {bs : List Arg} (h2 : ArgsOk G σ Hf zs bs) : ∀ {vs : List V} {as : List Arg}, ArgsOk G σ Hf vs as → ArgsOk G σ Hf (vs ++ zs) (as ++ bs)
  | _, _, .nil => h2
  | _, _, .cons a t => .cons a (ArgsOk.app h2 t)
theorem ArgsOk.mono {σ : L2.St} {Hf Hf' : Hp} (s : Same Hf Hf') : ∀ {vs : List V} {as : List Arg}, ArgsOk G σ Hf vs as → ArgsOk G σ Hf' vs as
  | _, _, .nil => .nil
  | _, _, .cons a t => .cons (ArgOk.mono a s) (ArgsOk.mono s t)
theorem arr_app {n m : Nat} : Arr G n m (fun vs zs => vs ++ zs) (fun as bs => as ++ bs) := fun σ Hf v vs zs as bs _ _ h1 h2 => ⟨vs ++ zs, rfl, ArgsOk.app h2 h1⟩
def eMkKX (n : Nat) (fn : List Cell → Rs D) (c : Str) (l m : Nat) (gA : List Arg → List Arg → List Arg) (os kos : List Opd) : EX := fun ρ => (evs os ρ).bind fun as ρ1 => (evs kos ρ1).bind fun bs ρ2 => if as.length = l ∧ bs.length = m then mkE n fn c [] (gA as bs) ρ2 else .bad
def eMkKN (n : Nat) (fn : List Cell → Rs D) (c : Str) (l m : Nat) (gA : List Arg → List Arg → List Arg) (os kos : List Opd) : EX := fun ρ => (evs os ρ).bind fun as ρ1 => (evs kos ρ1).bind fun bs ρ2 => if as.length = l ∧ bs.length = m then (mkE n fn c [] (gA as bs) ρ2).nx else .bad
theorem mkK_run {W' : WX} {l m : Nat} {gV : List V → List V → List V} {gA : List Arg → List Arg → List Arg} (ga : Arr G l m gV gA) {F : Fr} {σ : L2.St} {H Hf : Hp} {ρ : PEnv} {Q : VK} {vs zs : List V} {as bs : List Arg} (R : Rep G F σ H Hf ρ) (h1 : ArgsOk G σ Hf vs as) (h2 : ArgsOk G σ Hf zs bs) (hl : as.length = l ∧ bs.length = m)
    (p : PostE G F W' σ Hf (fun d H' Hf' _ => ∀ v, Rp G Hf' v d → Q v H') (mkE n fn c [] (gA as bs) ρ)) : vs.length = l ∧ zs.length = m ∧ ∀ x dx, H x = Option.none → H dx = Option.none → dx ≠ x →
      spD G n fn (gV (.ref x :: vs) zs) (upd (upd H dx (.own x)) x (.ins (G.cm c) dx [])) (fun v H3 => v = .non ∧ Q (.ref x) H3) (fun c d H' => W' c d σ H') := by
  refine ⟨h1.len.trans hl.1, h2.len.trans hl.2, fun x dx na nd ne => ?_⟩
  obtain ⟨ws, e, hw⟩ := ga σ Hf (.ref x) vs zs as bs (h1.len.trans hl.1) (h2.len.trans hl.2) h1 h2
  rw [e]
  have z := make_ok (W := W') (dvs := []) (dfl := []) R hw .nil p na nd ne
  rw [List.append_nil] at z
  exact z
theorem de_mkKX {l : Nat} {kn : List Str} {gV : List V → List V → List V} {gA : List Arg → List Arg → List Arg} (R : RdyMkX X.prog X.w X.K X.mg X.base x (G.cm c) k ps (spD G n fn) f fd) (fl : FillK X.K fd ps (l + 1) kn gV) (ga : Arr G l kn.length gV gA) (rm : Room j X.A) (hj : k + 1 ≤ j) (hg : Gl X x) (tk : Takes X W) (ha : DA G X W (e :: es) os) (hk : DK G X W kws kos)
    (hall : (backToKw pos (keywordEach kws X.env)).all (·.1.isSome) = true := by rfl) (hks : (backToKw pos (keywordEach kws X.env)).filterMap (·.1) = kn := by rfl) (hdb : (x == ("__debug__" : Str)) = false := by decide)
    (he : starEach (e :: es) X.env = (false, eval e X.env) :: starEach es X.env := by rfl) (hpl : ((backTo pos (starEach (e :: es) X.env)).any (·.1) || (backToKw pos (keywordEach kws X.env)).any (·.1.isNone)) = false := by rfl) : DE G X W (.Call (.Name x p) (e :: es) kws pos) (eMkKX n fn c l kn.length gA os kos) := by
  obtain ⟨t1, p1, q1⟩ := ha
  obtain ⟨t2, p2, q2⟩ := hk
  refine DE.intro ⟨_, pe_mkK R fl rm hj hg (fun σ => passAt tk σ) p1 p2 hall hks hdb he hpl, fun F σ H Hf ρ Q R p => ?_⟩
  refine q1 F σ H Hf ρ _ R ((PostE.bind p).imp fun as H1 Hf1 ρ1 _ R1 s1 p vs rs => ?_)
  refine q2 F σ H1 Hf1 ρ1 _ R1 ((PostE.bind p).imp fun bs H2 Hf2 ρ2 _ R2 s2 p zs rz => ?_)
  by_cases hl : as.length = l ∧ bs.length = kn.length
  · rw [if_pos hl] at p
    exact mkK_run (W' := W) ga R2 (ArgsOk.mono s2 rs) rz hl p
  · rw [if_neg hl] at p; exact p.elim
theorem de_mkKN {l : Nat} {kn : List Str} {gV : List V → List V → List V} {gA : List Arg → List Arg → List Arg} (R : RdyMkX X.prog X.w X.K X.mg X.base x (G.cm c) k ps (spD G n fn) f fd) (fl : FillK X.K fd ps (l + 1) kn gV) (ga : Arr G l kn.length gV gA) (rm : Room j X.A) (hj : k + 1 ≤ j) (hg : Gl X x) (ha : DA G X W (e :: es) os) (hk : DK G X W kws kos)
    (hall : (backToKw pos (keywordEach kws X.env)).all (·.1.isSome) = true := by rfl) (hks : (backToKw pos (keywordEach kws X.env)).filterMap (·.1) = kn := by rfl) (hdb : (x == ("__debug__" : Str)) = false := by decide)
    (he : starEach (e :: es) X.env = (false, eval e X.env) :: starEach es X.env := by rfl) (hpl : ((backTo pos (starEach (e :: es) X.env)).any (·.1) || (backToKw pos (keywordEach kws X.env)).any (·.1.isNone)) = false := by rfl) : DE G X W (.Call (.Name x p) (e :: es) kws pos) (eMkKN n fn c l kn.length gA os kos) := by
  obtain ⟨t1, p1, q1⟩ := ha
  obtain ⟨t2, p2, q2⟩ := hk
  refine DE.intro ⟨_, pe_mkK R fl rm hj hg (fun σ => passAt0) p1 p2 hall hks hdb he hpl, fun F σ H Hf ρ Q R p => ?_⟩
  refine q1 F σ H Hf ρ _ R ((PostE.bind p).imp fun as H1 Hf1 ρ1 _ R1 s1 p vs rs => ?_)
  refine q2 F σ H1 Hf1 ρ1 _ R1 ((PostE.bind p).imp fun bs H2 Hf2 ρ2 _ R2 s2 p zs rz => ?_)
  by_cases hl : as.length = l ∧ bs.length = kn.length
  · rw [if_pos hl] at p
    exact mkK_run (W' := W0) ga R2 (ArgsOk.mono s2 rs) rz hl (PostE.nx (W := W) p)
  · rw [if_neg hl] at p; exact p.elim
end
end Spk
namespace Spk
open PySem PySem.Spec PyProof.Rows L2
def gSqD (n : Nat) (gs : List D → PEnv → Option PEnv) : TGf := fun d ρ => match d with
  | .tup ds => if ds.length = n then gs ds ρ else none
  | .lst ds => if ds.length = n then gs ds ρ else none
  | _ => none
end Spk
namespace Spk
open PySem PySem.Spec PyProof.Rows L2
/-! ### x, y = a new list, a constant -/
def sParF (i j : Nat) (fl : PEnv → Rs (List D)) (d : D) : SX := fun ρ => Sr.of (fl ρ) fun ds ρ1 => if notBor ρ1 i = true ∧ notBor ρ1 j = true then .nx ((ρ1.set i (.own (.lst ds))).set j (.val d)) else .bad
/-- x, y = a value, a new list -/
def sParE (i j : Nat) (fe : EX) (fl : PEnv → Rs (List D)) : SX := fun ρ => Sr.of (fe ρ) fun d ρ1 => Sr.of (fl ρ1) fun ds ρ2 => if notBor ρ2 i = true ∧ notBor ρ2 j = true then .nx ((ρ2.set i (.val d)).set j (.own (.lst ds))) else .bad
end Spk
namespace Spk
open PySem PySem.Spec PyProof.Rows L2
/-! ### f(a=.., b=..) -/
section
variable {G : Gx} {X : Cx} {W : WX} {kos : List Opd} {p pos : Pos} {x : Str} {k j n : Nat} {ps : List Str} {fn : List Cell → Rs D} {f : Addr} {fd : FuncData} {kws : List Keyword} {dvs : List V}
def eCallK (n : Nat) (fn : List Cell → Rs D) (m : Nat) (gA : List Arg → List Arg) (kos : List Opd) : EX := fun ρ => (evs kos ρ).bind fun bs ρ1 => if bs.length = m then appF n fn [] (gA bs) ρ1 else .bad
end
end Spk
namespace Spk
open PySem PySem.Spec PyProof.Rows L2
/-! ### x.insert(k, d) -/
def insG (k : Int) (d : D) (ds : List D) : Option (List D) := if ds.length < sizeLine ∧ 0 ≤ k ∧ k < 2 ^ 63 then some (ds.take k.toNat ++ [d] ++ ds.drop k.toNat) else none
def sIns (i : Nat) (fk fe : EX) : SX := fun ρ => Sr.of (fk ρ) fun k ρ1 => Sr.of (fe ρ1) fun d ρ2 => match k with
  | .int k => (match putAt i (insG k d) ρ2 with
    | some ρ3 => .nx ρ3
    | none => .bad)
  | _ => .bad
end Spk
namespace Spk
open PySem PySem.Spec PyProof.Rows L2
/-! ### f-strings -/
def fmtD : D → Option Str
  | .str y => if y.length ≤ sizeLine then some y else none
  | .int i => if i.natAbs.log2 < 1920 then some (toString i) else none
  | _ => none
inductive FPart where
  | lit (t : Str) | ex (f : EX)
def FPart.ev : FPart → PEnv → Rs Str
  | .lit t, ρ => .ok t ρ
  | .ex f, ρ => (f ρ).bind fun d ρ1 => Rs.lift (fmtD d) ρ1
def joinE : List FPart → Str → PEnv → Rs Str
  | [], acc, ρ => .ok acc ρ
  | p :: ps, acc, ρ => (p.ev ρ).bind fun y ρ1 => if (acc ++ y).length ≤ sizeLine then joinE ps (acc ++ y) ρ1 else .bad
def eJs (fs : List FPart) : EX := fun ρ => (joinE fs Str.empty ρ).bind fun s ρ1 => if PyData.canLay0 (.str s) = true then .ok (.str s) ρ1 else .bad
/-! ### makers by keywords in another order -/
/-! ### static methods that may raise -/
end Spk
namespace Spk
open PySem PySem.Spec PyProof.Rows L2
/-! ### sep.join(a list or a tuple of texts) -/
def strs? : List D → Option (List Str)
  | [] => some []
  | .str x :: r => (strs? r).map (x :: ·)
  | _ :: _ => none
def seqSt : D → Option (List Str)
  | .lst ds => strs? ds
  | .tup ds => strs? ds
  | _ => none
def joinD (a : Str) (d : D) : Option D := (seqSt d).bind fun ys => if (ys.map (·.length)).sum + ys.length * a.length ≤ 16777216 ∧ PyData.canLay0 (.str (Txt.join a ys)) = true then some (.str (Txt.join a ys)) else none
def eJoin (fo : EX) (a : Opd) : EX := fun ρ => (fo ρ).bind fun d ρ1 => match d with
  | .str x => (a.ev ρ1).bind fun z ρ2 => Rs.lift ((z.dat ρ2).bind (joinD x)) ρ2
  | _ => .bad
end Spk
namespace Spk
open PySem PySem.Spec PyProof.Rows L2
/-! ### a name of the module that is a tuple of texts, truths and ints -/
def flatV : D → V
  | .str x => .str x
  | .bl b => .bl b
  | .int i => .int i
  | _ => .non
def flatD : D → Bool
  | .str x => PyData.canLay0 (.str x)
  | .bl _ => true
  | .int _ => true
  | .non => true
  | _ => false
theorem flat_rp {G : Gx} {H : Hp} {d : D} (h : flatD d = true) : Rp G H (flatV d) d := by
  cases d <;> first | cases h | skip
  · exact .non
  · exact .bl _
  · exact .int _
  · exact .str h
theorem flat_rpl {G : Gx} {H : Hp} : ∀ {ds : List D}, ds.all flatD = true → RpL G H (ds.map flatV) ds
  | [], _ => .nil
  | d :: ds, h => by
    rw [List.all_cons, Bool.and_eq_true] at h
    exact .cons (flat_rp h.1) (flat_rpl h.2)
structure GlT (K : PySem.W.Frag) (mg : Str → Option Value) (x : Str) (ds : List D) : Prop where
  at_ : ∃ (a : Addr) (o : Obj) (its : List Value) (n : Nat), mg x = some (.ref a) ∧ K.lookup a = some o ∧ o.cls = .type "tuple" ∧ o.data = .seq its.toArray n ∧ Vals (ds.map flatV) its
theorem de_glT {X : Cx} {G : Gx} {W : WX} {x : Str} {pos : Pos} {ds : List D} (h : GlT X.K X.mg x ds) (hg : Gl X x) (hf : ds.all flatD = true := by decide +kernel) (hl : ds.length ≤ 1000 := by decide) (hK : X.K = G.K := by rfl) (hd : (x == ("__debug__" : Str)) = false := by decide) : DE G X W (.Name x pos) (eC (.tup ds)) := by
  obtain ⟨a, o, its, n, hm, e1, e2, e3, hv⟩ := h.at_
  have ln : its.length ≤ 1000 := by have := hv.length; rw [List.length_map] at this; omega
  exact de_cst (pe_glob (v := .ref a) hg hm rfl hd) fun _ => .tup (.inr ⟨o, _, n, hK ▸ e1, e2, e3, by rw [List.size_toArray, sizeLine_eq]; omega, by simpa using hv⟩) (flat_rpl hf)
/-! ### {x!r} of texts, ints, truths and None -/
end Spk
namespace Spk
open PySem PySem.Spec PyProof.Rows L2
/-! ### repr of an own class -/
/-! ### makers by keywords, some of them left out -/
section
variable {G : Gx} {σ : L2.St} {Hf : Hp}
theorem ArgsOk.take : ∀ {vs : List V} {as : List Arg} (n : Nat), ArgsOk G σ Hf vs as → ArgsOk G σ Hf (vs.take n) (as.take n)
  | _, _, 0, _ => .nil
  | _, _, n + 1, .nil => .nil
  | _, _, n + 1, .cons a t => .cons a (ArgsOk.take n t)
theorem ArgsOk.drop : ∀ {vs : List V} {as : List Arg} (n : Nat), ArgsOk G σ Hf vs as → ArgsOk G σ Hf (vs.drop n) (as.drop n)
  | _, _, 0, h => h
  | _, _, n + 1, .nil => .nil
  | _, _, n + 1, .cons a t => ArgsOk.drop n t
end
/-! ### two tuples side by side -/
end Spk
namespace Spk
open PySem PySem.Spec PyProof.Rows L2
/-! ### x.extend(a new list), x.pop(k), e.split(c); two names at once, the first a new list -/
section
variable {G : Gx} {X : Cx} {W : WX}
/-! x.pop(k) -/
/-! e.split(c): a new list of texts -/
/-! two names at once, the first a new list -/
def sParFF (i j : Nat) (fl fl2 : PEnv → Rs (List D)) : SX := fun ρ => Sr.of (fl ρ) fun ds ρ1 => Sr.of (fl2 ρ1) fun es ρ2 => if notBor ρ2 i = true ∧ notBor ρ2 j = true then .nx ((ρ2.set i (.own (.lst ds))).set j (.own (.lst es))) else .bad
theorem own_held {F : Fr} {σ : L2.St} {H Hf : Hp} {ρ : PEnv} {a : Addr} {vs : List V} {ds : List D} (i : Nat) (R : Rep G ⟨upd F.Pt a (.lst vs), F.Bp⟩ σ H Hf ρ) (np : F.Pt a = none) (r : RpL G Hf vs ds) : Rep G F (σ.set i (some (.ref a))) H Hf (ρ.set i (.own (.lst ds))) := by
  obtain ⟨Ru, hD, nf, nm⟩ := R.unguard np
  have := own_new (Ru.hide ⟨_, hD⟩ nf np nm) i hid_same r
  rw [upd_hid hD] at this
  exact this
theorem guard_new {F : Fr} {σ : L2.St} {H Hf : Hp} {ρ : PEnv} (R : Rep G F σ H Hf ρ) {a : Addr} (vs : List V) (na : H a = none) : Rep G ⟨upd F.Pt a (.lst vs), F.Bp⟩ σ (upd H a (.lst vs)) Hf ρ := by
  obtain ⟨nf, np, nm⟩ := R.newFree na
  exact (R.side na (.lst vs)).guard upd_same nf nm
theorem ds_parFF {i j : Nat} {x y : Str} {c d : Expr} {fl fl2 : PEnv → Rs (List D)} {px py pt : Pos} {kt k2 pt2 pos} (hN : X.N.Nodup) (ha : DF G X W c fl) (hd : DF G X W d fl2) (hi : X.N[i]? = some x := by rfl) (hj : X.N[j]? = some y := by rfl) (hij : i ≠ j := by decide)
    (hx : X.env.scope.names.lookup x = some .local := by rfl) (hy : X.env.scope.names.lookup y = some .local := by rfl)
    (hw : swappedStores [.Tuple [.Name x px, .Name y py] kt pt] (.Tuple [c, d] k2 pt2) X.env = pure (some [x, y]) := by rfl) (hc : X.calm = true := by rfl)
    (hs : swapsWithSole [.Tuple [.Name x px, .Name y py] kt pt] (.Tuple [c, d] k2 pt2) pos.line X.env = pure false := by rfl)
    (h1 : starEach [c, d] X.env = (false, eval c X.env) :: starEach [d] X.env := by rfl) (h2 : starEach [d] X.env = (false, eval d X.env) :: starEach [] X.env := by rfl) : DS G X W (.Assign [.Tuple [.Name x px, .Name y py] kt pt] (.Tuple [c, d] k2 pt2) pos) (sParFF i j fl fl2) := by
  obtain ⟨t1, p1, q1⟩ := ha
  obtain ⟨t2, p2, q2⟩ := hd
  refine ⟨_, ps_par (i := i) (j := j) hc hN hi hj hij hx hy (pa_cons p1 (pa_cons p2 pa_nil h2) h1) hw hs, fun F σ H Hf ρ En R p => q1 F σ H Hf ρ _ R ((PostS.of p).imp fun ds H1 Hf1 ρ1 _ R1 s1 p a vs na r => ?_)⟩
  have np := (R1.newFree na).2.1
  cases hfe : fl2 ρ1 with
  | exc C f' d' ρ2 => 
    rw [hfe] at p
    refine q2 _ σ _ Hf1 ρ1 _ (guard_new R1 vs na) ?_
    rw [hfe]
    intro v dd H2 Hf2 R2 s2 rv hx
    exact p v dd σ H2 Hf2 (R2.unguard np).1 s2 rv hx
  | bad => rw [hfe] at p; exact p.elim
  | ok es ρ2 =>
    rw [hfe] at p
    have p : PostS G F W Hf1 En (if notBor ρ2 i = true ∧ notBor ρ2 j = true then .nx ((ρ2.set i (.own (.lst ds))).set j (.own (.lst es))) else .bad) := p
    refine q2 _ σ _ Hf1 ρ1 _ (guard_new R1 vs na) ?_
    rw [hfe]
    intro H2 Hf2 R2 s2 b ws nb r2
    have p := p.mono s2
    split at p
    · exact ⟨_, _, rfl, p _ _ _ (own_new (own_held i R2 np (r.mono s2)) j nb r2) (Same.refl _)⟩
    · exact p.elim
end
end Spk
/-! sets of texts: made of a list, and sorted, fewer than 64 members -/
namespace Spk
open PySem PySem.Spec PyProof.Rows L2
def txE (e : Int × Value) : Str := match e.2 with
  | .str k _ => k
  | _ => ""
def IsTx (w : World) (e : Int × Value) : Prop := ∃ k u, e = (hashStr w k, Value.str k u)
/-- entries ys and table u hold the texts M, c of them -/
def TxF (w : World) (M : List Str) (c : Nat) (ys : Array (Int × Value)) (u : SetTable) : Prop :=
  (∀ e ∈ ys.toList, IsTx w e) ∧ (ys.toList.map txE).Nodup ∧ (∀ k, k ∈ ys.toList.map txE ↔ k ∈ M) ∧ ys.size = c ∧ c < scanBound ∧ u.fits ys.size = true ∧ Ris u.place.toList ∧ (w.params.followText "set-order" = true ∨ u.led = true)
def SetT (w : World) (h : Heap) (a : Addr) (M : List Str) (c : Nat) : Prop := ∃ o ys ep u, h.get? a = some o ∧ o.ExactSet ∧ o.data = .set ys ep u ∧ TxF w M c ys u
section
variable {P : Program} {w : World} {M : List Str} {c : Nat} {ys : Array (Int × Value)} {u : SetTable} {k : Str} {h h' : Heap} {a : Addr}
theorem TxF.lt (F : TxF w M c ys u) : ys.size < scanBound := by rw [F.2.2.2.1]; exact F.2.2.2.2.1
theorem TxF.push (F : TxF w M c ys u) (tk : Tok) (nk : k ∉ M) (room : c + 1 < scanBound) : TxF w (k :: M) (c + 1) (layNew u ys (hashStr w k) (.str k tk)).1 (layNew u ys (hashStr w k) (.str k tk)).2.1 := by
  obtain ⟨f1, f2, f3, f4, f5, f6, f7, f8⟩ := F
  have p := layNew_perm u ys (hashStr w k) (.str k tk)
  have p : (layNew u ys (hashStr w k) (.str k tk)).1.toList.Perm ((hashStr w k, Value.str k tk) :: ys.toList) := by rw [Array.toList_push] at p; exact p.trans (List.perm_append_singleton _ _)
  have pt : ((layNew u ys (hashStr w k) (.str k tk)).1.toList.map txE).Perm (k :: ys.toList.map txE) := p.map txE
  have pz : (layNew u ys (hashStr w k) (.str k tk)).1.size = c + 1 := by have := p.length_eq; simp at this; omega
  refine ⟨fun e m => ?_, pt.nodup_iff.mpr (List.nodup_cons.mpr ⟨fun z => nk ((f3 k).mp z), f2⟩), fun j => ?_, pz, room, layNew_fits u ys (hashStr w k) (.str k tk), layNew_ris u ys (hashStr w k) (.str k tk) f7, f8.imp_right fun z => (layNew_led u ys (hashStr w k) (.str k tk)).trans z⟩
  · rcases List.mem_cons.mp (p.mem_iff.mp m) with rfl | m
    · exact ⟨k, tk, rfl⟩
    · exact f1 e m
  · rw [pt.mem_iff, List.mem_cons, List.mem_cons, f3 j]
theorem SetT.keep (R : SetT w h a M c) (e : ∀ o, h.get? a = some o → h'.get? a = some o) : SetT w h' a M c := by
  obtain ⟨o, ys, ep, u, r1, r⟩ := R
  exact ⟨o, ys, ep, u, e o r1, r⟩
end
end Spk
/-! set(xs) of a list of texts; sorted(set of texts) -/
namespace Spk
open PySem PySem.Spec PyProof.Rows L2
section
variable {P : Program} {w : World} {A : Around} {E : Value → Shared → Prop} {s : Shared}
theorem setT_empty {h : Heap} {a : Addr} (e : h.get? a = some (setOb w)) : SetT w h a [] 0 :=
  ⟨_, #[], 0, _, e, ⟨rfl, rfl, rfl⟩, rfl, fun _ m => by simp at m, by simp, fun k => by simp, rfl, by decide, by rfl, List.Pairwise.nil, by
    show _ ∨ (!w.params.followText "set-order") = true
    cases w.params.followText "set-order" <;> simp⟩
end
end Spk
namespace Spk
open PySem PySem.Spec PyProof.Rows L2
section
variable {P : Program} {w : World} {A : Around} {E : Value → Shared → Prop} {s : Shared}
theorem sortedSetT {a : Addr} {M : List Str} {n : Nat} {Q : Value → Shared → Prop} (R : SetT w s.heap a M n) (hh : A.handled = none)
    (q : ∀ t p (out : Array Value) (c : Nat) (ns : List Str), (∀ b o, s.heap.get? b = some o → t.heap.get? b = some o) → t.gens = s.gens → t.os = s.os → s.heap.objs.size ≤ p → t.heap.get? p = some (seqObj "list" out c) →
      StrsAre out.toList ns → sortedS ns = true → ns.Nodup → (∀ k, k ∈ ns ↔ k ∈ M) → ns.length ≤ sizeLine → Q (.ref p) t) :
    wpAny (model P w) A (call (.builtin "sorted") [.ref a]) Q E s := by
  obtain ⟨o, ys, ep, u, go, ox, od, F⟩ := R
  have F' := F
  obtain ⟨f1, f2, f3, f4, f5, f6, f7, f8⟩ := F'
  refine Calls.call_function_entry kind_sorted plain_sorted entry_sorted (args_sorted1 _) ?_
  unfold Builtin.«sorted»
  refine wpAny_bind (m := checkCount "sorted" 1 1 _) (wpAny_pure (wpAny_bind (collect_set (A := A.in1) hh ⟨o, go, ox.1, od⟩ f6 F.lt f7 f8 fun s1 vs k1 z1 g1 o1 pm => ?_)))
  have lv : vs.length = ys.size := by rw [pm.length_eq]; simp
  have zv : vs.length ≤ sizeLine := by rw [lv, sizeLine_eq]; have := F.lt; unfold scanBound at this; omega
  obtain ⟨zs, hzs, pz⟩ : ∃ zs : List Str, StrsAre vs zs ∧ zs.Perm (ys.toList.map txE) := by
    refine ⟨vs.map fun v => txE (0, v), ?_, by have := pm.map (fun v => txE (0, v)); rwa [List.map_map] at this⟩
    have g : ∀ v ∈ vs, ∃ k t, v = Value.str k t := fun v m => by
      obtain ⟨e, m2, rfl⟩ := List.mem_map.mp (pm.mem_iff.mp m)
      obtain ⟨k, t, rfl⟩ := f1 e m2
      exact ⟨k, t, rfl⟩
    clear pm lv zv
    induction vs with
    | nil => exact .nil
    | cons v vs ih =>
      obtain ⟨k, t, rfl⟩ := g v List.mem_cons_self
      exact .cons _ _ (ih fun x m => g x (List.mem_cons_of_mem _ m))
  refine wpAny_bind (wpAny_newList ?_ zv)
  have hL : (s1.heap.push (seqObj "list" vs.toArray 0)).get? s1.heap.objs.size = some (seqObj "list" vs.toArray 0) := Heap.get?_push_size _ rfl
  refine wpAny_bind (wpAny_holding (wpAny_call_entry slot_list_sort ⟨_, hL, rfl⟩ entry_list_sort
    (list_sort_treeKSt strKind_oneLt hL hzs.keysOf (fun v₁ v₂ rest e => keyKind_strs (by rw [← e]; exact hzs)) zv fun st' hp hs _ => ⟨_, rfl, ?_⟩) (args_list_sort _)))
  obtain ⟨ts, w1, w2, w3⟩ := sorted_out_str hzs hp hs
  obtain ⟨c, hc⟩ := sortedHeap_at (vs := vs) (out := (arrOf st').map (·.2)) hL
  have pn := w2.trans pz
  have zt : ts.length ≤ sizeLine := by rw [w2.length_eq, ← StrsAre.len_eq hzs]; exact zv
  refine wpAny_pure ⟨_, rfl, q _ s1.heap.objs.size ((arrOf st').map (·.2)) c ts (fun b u e => ?_) g1 o1 z1 hc w1 w3 (pn.nodup_iff.mpr f2) (fun k => pn.mem_iff.trans (f3 k)) zt⟩
  have e1 := k1 b u e
  have lt := Heap.lt_size e1
  show (sortedHeap _ _ _ _).get? b = some u
  rw [sortedHeap_old (Nat.ne_of_lt lt) (by rw [size_push']; exact Nat.lt_succ_of_lt lt)]
  exact Heap.get?_push_of_some _ e1
end
section
variable {X : Cx}
def SetTO (w : World) (a : Addr) (M : List Str) (c : Nat) : HO := .ext fun h => SetT w h a M c
theorem setTO_new {w : World} {P : Program} {H : Hp} {h : Heap} {a : Addr} {M : List Str} {c : Nat} (R : SetT w h a M c) : ObjOk P w H h a (SetTO w a M c) := by
  have ⟨o, _, _, _, go, _⟩ := R
  exact ⟨R, ⟨o, go⟩, fun _ _ z k => SetT.keep z k⟩
/-- sorted(set of texts) -/
def rSortSetT (w : World) : List V → Hp → VK → Prop := fun vs H Q => ∃ (a : Addr) (M : List Str) (n : Nat), vs = [V.ref a] ∧ H a = some (SetTO w a M n) ∧
  ∀ (ns : List Str) (p : Addr), sortedS ns = true → ns.Nodup → (∀ k : Str, k ∈ ns ↔ k ∈ M) → H p = none → Q (.ref p) (upd H p (.lst (ns.map V.str)))
theorem cr_sortSetT (hc : X.calm = true) : CallR X (.builtin "sorted") (rSortSetT X.w) := by
  intro pins s σ H vs us Q I r h
  obtain ⟨a, M, n, rfl, ha, q⟩ := h
  have R : SetT X.w s.heap a M n := (I.hok a _ ha).1
  rw [Vals.ref1 r]
  refine sortedSetT R (I.ok.hd hc) fun t p out c ns k g o hp hg hi hs nd hm hz => ?_
  have free : H p = none := I.hok.fresh hp
  obtain ⟨_, _, _, _, _⟩ := t
  dsimp only at g o; subst g o
  exact ⟨.ref p, upd H p (.lst (ns.map V.str)), I.call (ch := []) (Un.laid k hp free) (I.hok.laid k hp ⟨by rw [List.length_map]; exact hz, out.toList, c, vals_of_strs hi, hg⟩) I.bare (fun _ z => nomatch z), rfl, q ns p hs nd hm free⟩
end
end Spk
/-! sorted(set(xs)), texts -/
/-! f(): a def without parameters -/
/-! a new list or another by a test; x.pop() -/
namespace Spk
open PySem PySem.Spec PyProof.Rows L2
section
variable {G : Gx} {X : Cx} {W : WX} {a b c : Expr} {pos : Pos} {g : BX} {fa fb : PEnv → Rs (List D)}
def fIfL (g : BX) (fa fb : PEnv → Rs (List D)) : PEnv → Rs (List D) := fun ρ => (g ρ).bind fun k ρ1 => if k = true then fa ρ1 else fb ρ1
theorem df_ifExp (hc : DT G X W c g) (ha : DF G X W a fa) (hb : DF G X W b fb) : DF G X W (.IfExp c a b pos) (fIfL g fa fb) := by
  obtain ⟨t, p0, q0⟩ := hc
  obtain ⟨t1, p1, q1⟩ := ha
  obtain ⟨t2, p2, q2⟩ := hb
  refine ⟨_, pe_ifExp p0 p1 p2, fun F σ H Hf ρ Q R p => ?_⟩
  refine q0 F σ H Hf ρ _ R ((PostE.bind p).imp fun k H1 Hf1 ρ1 _ R1 s1 p => ?_)
  by_cases hk : k = true
  · rw [if_pos hk] at p ⊢
    exact q1 F σ H1 Hf1 ρ1 _ R1 p
  · rw [if_neg hk] at p ⊢
    exact q2 F σ H1 Hf1 ρ1 _ R1 p
end
end Spk
/-! xs.index(x) -/
namespace Spk
open PySem PySem.Spec PyProof.Rows L2
def eIndex (fo fe : EX) : EX := fun ρ => (fo ρ).bind fun d ρ1 => match d with
  | .lst ds => (fe ρ1).bind fun y ρ2 => Rs.lift (if (D.lst ds).fit = true ∧ y.fit = true then (ds.findIdx? fun z => eqv z y).map (fun j => D.int (j : Nat)) else none) ρ2
  | _ => .bad
theorem de_index {G : Gx} {X : Cx} {W : WX} {o e : Expr} {fo fe : EX} {apos cpos : Pos} (hu : X.A.units + 65 < cLine) (h : DE G X W o fo) (ha : DE G X W e fe) (hK : X.K = G.K := by rfl)
    (hbase : attributeBase o "index" X.env (eval o X.env) = eval o X.env := by rfl)
    (hfew : ((backTo cpos (starEach [e] X.env)).all (fun x => !x.1) && (backToKw cpos (keywordEach [] X.env)).all (fun x => x.1.isSome) && decide ([e].length + ([] : List Keyword).length + (if ([] : List Keyword).isEmpty then 0 else 1) < 30)) = true := by rfl)
    (hline : (apos.endLine == cpos.line) = true := by rfl) (hs : starEach [e] X.env = (false, eval e X.env) :: starEach [] X.env := by rfl) (hplain : (backTo cpos (starEach [] X.env)).any (·.1) = false := by rfl) :
    DE G X W (.Call (.Attribute o "index" apos) [e] [] cpos) (eIndex fo fe) := by
  obtain ⟨t1, p1, q1⟩ := DE.elim h
  obtain ⟨t2, p2, q2⟩ := DE.elim ha
  refine DE.intro ⟨_, pe_bm PySem.F.plainAttrs_list PySem.F.slot_list_index PySem.F.type_list_index (mt_indexD hu) p1 (pa_cons p2 pa_nil hs) hbase hfew hline hs hplain, fun F σ H Hf ρ Q R p => ?_⟩
  refine q1 F σ H Hf ρ _ R ((PostE.bind p).imp fun d H1 Hf1 ρ1 _ R1 s1 p v r => ?_)
  cases d with
  | lst ds =>
    have r' := r
    cases r' with
    | lst hh rl =>
      refine ⟨.inl ⟨rfl, _, SqL.hp (R1.sub _ _ hh)⟩, q2 F σ H1 Hf1 ρ1 _ R1 ((PostE.bind p).imp fun y H2 Hf2 ρ2 _ R2 s2 p u ru => ?_)⟩
      obtain ⟨d, hd, q⟩ := lift_post (H := H2) p
      by_cases cc : ¬ ((D.lst ds).fit = true ∧ y.fit = true)
      · rw [if_neg cc] at hd; cases hd
      have cc := Decidable.not_not.mp cc
      rw [if_pos cc] at hd
      obtain ⟨j, hj, rfl⟩ := Option.map_eq_some_iff.mp hd
      obtain ⟨a1, a2⟩ := Rp.shp ((r.mono s2).mono R2.sub) cc.1
      obtain ⟨b1, b2⟩ := Rp.shp (ru.mono R2.sub) cc.2
      obtain ⟨lt, e1, no⟩ := List.findIdx?_eq_some_iff_getElem.mp hj
      refine ⟨_, u, y.py, pys ds, j, ds[j].py, rfl, rfl, hK ▸ a1, hK ▸ b1, a2, b2, by rw [pys_map, List.getElem?_map, List.getElem?_eq_getElem lt]; rfl, e1, fun m z' hm ez => ?_, q H2 Hf2 R2 (Same.refl _) _ (.int _)⟩
      rw [pys_map, List.getElem?_map, List.getElem?_eq_getElem (Nat.lt_trans hm lt)] at ez
      cases ez
      exact Bool.eq_false_iff.mpr (no m hm)
  | _ => exact p.elim
end Spk
/-! o.m(..), o(..) that give a new list -/
namespace Spk
open PySem PySem.Spec PyProof.Rows L2 StX
section
variable {G : Gx} {X : Cx} {W : WX} {k j n : Nat} {f : Addr} {fd : FuncData} {ps : List Str} {c m : Str} {fn : List Cell → Rs (List D)} {o e : Expr} {es : List Expr} {apos pos : Pos} {fo : EX} {os : List Opd}
def fMethN (n : Nat) (fn : List Cell → Rs (List D)) (c m : Str) (dfl : List D) (fo : EX) (os : List Opd) : PEnv → Rs (List D) := fun ρ => (fo ρ).bind fun d ρ1 => if isIns c d = true ∧ noKey m d = true then (evs os ρ1).bind fun as ρ2 => (appF n fn dfl (.val d :: as) ρ2).nx else .bad
end
end Spk
/-! a maker (self, *v, kw=..) that may raise, called with its keyword -/
/-! C(e, .., kw = z) of a maker (self, *v, kw=..), where nothing is let out -/
namespace Spk
open PySem PySem.Spec PyProof.Rows L2
/-! ### generators: what their bodies hand out -/
inductive Gr where
  | nx (ys : List D) (ρ : PEnv) | rt (ys : List D) (ρ : PEnv) | bk (ys : List D) (ρ : PEnv) | ct (ys : List D) (ρ : PEnv) | exc (C f : Str) (d : D) (ρ : PEnv) | bad
abbrev GXf := List D → PEnv → Gr
def PostG (G : Gx) (F : Fr) (W : WX) (Hf : Hp) (En : GEnds) : Gr → Prop
  | .nx ys ρ' => ∀ vs σ' H' Hf', Rep G F σ' H' Hf' ρ' → Same Hf Hf' → RpL G Hf' vs ys → En.nx vs σ' H'
  | .rt ys ρ' => ∀ vs σ' H' Hf', Rep G F σ' H' Hf' ρ' → Same Hf Hf' → RpL G Hf' vs ys → En.rt vs .non H'
  | .bk ys ρ' => ∀ vs σ' H' Hf', Rep G F σ' H' Hf' ρ' → Same Hf Hf' → RpL G Hf' vs ys → En.bk vs σ' H'
  | .ct ys ρ' => ∀ vs σ' H' Hf', Rep G F σ' H' Hf' ρ' → Same Hf Hf' → RpL G Hf' vs ys → En.ct vs σ' H'
  | .exc C f d ρ' => ∀ v dd σ' H' Hf', Rep G F σ' H' Hf' ρ' → Same Hf Hf' → Rp G Hf' v d → Hf' dd = some (.xd [(f, v)]) → W (.ref (G.cm C)) (some dd) σ' H'
  | .bad => False
theorem PostG.mono {G : Gx} {F : Fr} {W : WX} {Hf Hf' : Hp} {En : GEnds} {r : Gr} (h : PostG G F W Hf En r) (s : Same Hf Hf') : PostG G F W Hf' En r := by
  cases r with
  | nx ys ρ => exact fun vs σ2 H2 Hf2 R t => h vs σ2 H2 Hf2 R (s.trans t)
  | rt ys ρ => exact fun vs σ2 H2 Hf2 R t => h vs σ2 H2 Hf2 R (s.trans t)
  | bk ys ρ => exact fun vs σ2 H2 Hf2 R t => h vs σ2 H2 Hf2 R (s.trans t)
  | ct ys ρ => exact fun vs σ2 H2 Hf2 R t => h vs σ2 H2 Hf2 R (s.trans t)
  | exc C f d ρ => exact fun v dd σ2 H2 Hf2 R t => h v dd σ2 H2 Hf2 R (s.trans t)
  | bad => exact h
section
variable {G : Gx} {X : Cx} {W : WX} {e tg : Expr} {es : List Expr} {st : Stmt} {rest : List Stmt} {f : SX} {g1 g2 : GXf} {fe : EX} {pos : Pos}
/-- a statement that hands out nothing -/
def gPl (f : SX) : GXf := fun ys ρ => match f ρ with
  | .nx ρ' => .nx ys ρ'
  | .rt .non ρ' => .rt ys ρ'
  | .bk ρ' => .bk ys ρ'
  | .ct ρ' => .ct ys ρ'
  | .exc C x d ρ' => .exc C x d ρ'
  | _ => .bad
def gNil : GXf := fun ys ρ => .nx ys ρ
def Gr.seq (r : Gr) (k : GXf) : Gr := match r with
  | .nx ys ρ => k ys ρ
  | r => r
@[simp] theorem Gr.seq_nx {ys : List D} {ρ : PEnv} {k : GXf} : (Gr.nx ys ρ).seq k = k ys ρ := rfl
@[simp] theorem Gr.seq_exc {C x : Str} {d : D} {ρ : PEnv} {k : GXf} : (Gr.exc C x d ρ).seq k = .exc C x d ρ := rfl
@[simp] theorem Gr.seq_rt {ys : List D} {ρ : PEnv} {k : GXf} : (Gr.rt ys ρ).seq k = .rt ys ρ := rfl
def gSeq (f g : GXf) : GXf := fun ys ρ => (f ys ρ).seq g
/-- yield e -/
def gYield (fe : EX) : GXf := fun ys ρ => if ys.length < sizeLine then (match fe ρ with
  | .ok d ρ1 => .nx (ys ++ [d]) ρ1
  | .exc C x d ρ1 => .exc C x d ρ1
  | .bad => .bad) else .bad
/-! ### for -/
def loopG (g : TGf) (body : GXf) : List D → List D → PEnv → Gr
  | [], ys, ρ => .nx ys ρ
  | d :: ds, ys, ρ => match g d ρ with
    | none => .bad
    | some ρ1 => match body ys ρ1 with
      | .nx ys2 ρ2 => loopG g body ds ys2 ρ2
      | .ct ys2 ρ2 => loopG g body ds ys2 ρ2
      | .bk ys2 ρ2 => .nx ys2 ρ2
      | r => r
def gFor (it : PEnv → Rs (List D)) (g : TGf) (body : GXf) : GXf := fun ys ρ => match it ρ with
  | .ok ds ρ1 => loopG g body ds ys ρ1
  | .exc C x d ρ1 => .exc C x d ρ1
  | .bad => .bad
end
/-! ### a generator def's promise -/
/-! ### list(o.m(..)) -/
def onlyX {α : Type} (es : List Str) : Rs α → Rs α
  | .exc C f d ρ => if es.contains C then .exc C f d ρ else .bad
  | r => r
section
variable {G : Gx} {X : Cx} {W : WX} {k j n : Nat} {f : Addr} {fd : FuncData} {ps : List Str} {c m nm : Str} {fn : List Cell → Rs (List D)} {o e : Expr} {es : List Expr} {apos pos p pos' : Pos} {fo : EX} {os : List Opd}
/-- list(o.m(..)), what m raises goes on -/
def fMethX (es : List Str) (n : Nat) (fn : List Cell → Rs (List D)) (c m : Str) (dfl : List D) (fo : EX) (os : List Opd) : PEnv → Rs (List D) := fun ρ => (fo ρ).bind fun d ρ1 => if isIns c d = true ∧ noKey m d = true then (evs os ρ1).bind fun as ρ2 => onlyX es (appF n fn dfl (.val d :: as) ρ2) else .bad
end
end Spk
/-! sorted(xs, key=f), what holds between the calls of f told by an invariant -/
/-! a lambda with one parameter, called where it was made -/
namespace LamK
open PySem PySem.Spec PyProof.Rows L2 LamX
/-- one parameter p, captured names and globals -/
structure LamS1 (sc scope : Scope) (p : Str) : Prop where
  kind : scope.kind = .function
  co : scope.isCoroutine = false
  gen : scope.isGenerator = false
  own : ∀ y ∈ scope.names, y.2 ≠ .cell ∧ (y.2 = .local → y.1 = p)
  par : scope.names.lookup p = some .local
  free : ∀ y ∈ scope.names, y.2 = .free → sc.names.lookup y.1 = some .cell ∨ sc.names.lookup y.1 = some .free
theorem LamS1.has {X : Cx} {scope : Scope} {p : Str} (L : LamS1 X.env.scope scope p) (ok : X.Ok) : ∀ y ∈ scope.names, y.2 = .free → ∃ c, X.env.cells.lookup y.1 = some c := fun y hy e => by
  rcases L.free y hy e with k | k
  · exact ok.has _ (.inl k)
  · exact ok.has _ (.inr k)
end LamK
/-! sorted(xs, key = lambda p: ..) over the pure layer -/
/-! defs that make lambdas; the end of a law in which some stand -/
namespace Spk
open PySem PySem.Spec PyProof.Rows L2 LamX
section
variable {P : Program} {w : World} {K : PySem.W.Frag} {mg : Str → Option Value} {bh : Heap} {x qu : Str} {st : Stmt} {f : Addr} {fd : FuncData} {N ps : List Str} {k : Nat} {sp : Sp} {c T : Addr}
/-- a def whose code object stands at c, with its table at T -/
structure FunL (K : PySem.W.Frag) (mg : Str → Option Value) (bh : Heap) (x qu : Str) (st : Stmt) (f : Addr) (fd : FuncData) (c T : Addr) : Prop where
  ex : ∃ (oc : Value) (od : Option Addr) (dV kV doc pm : Value) (an : Option Addr) (ct : Value) (sl : Array (Option Value)),
    fd = PySem.W.fnOf x qu (defArgs st) (defBody st) (defScope st) dV kV doc pm an (.ref c) ct ∧ K.lookup f = some ⟨oc, od, .func fd, sl⟩ ∧ PySem.W.codeIn K (.ref c) qu = true
  tb : TabB bh mg c T
theorem FunL.okX (F : FunL K mg bh x qu st f fd c T) (S : FnScope N ps (defScope st)) (ln : ∀ vs H Q E, sp vs H Q E → vs.length = ps.length)
    (hb : ∀ (B : Around) (ou : List Env) (t : Shared) (J : Hp) (ws : List V) (R : VK) (U : XK), Room k (B.deeper (envOfC qu (defScope st) t.heap.objs.size f (.ref c))) → sp ws J R U →
      ∃ tr, PSs (cxOf (L2.CX P w) P w K mg bh N qu (defScope st) f (.ref c) B ou t J U) (defBody st) tr ∧ tr { nx := fun _ J' => R .non J', rt := R } (L2.start N ws) J) : FnOk P w K mg bh (L2.CX P w) (k + 1) f fd ps sp := by
  obtain ⟨oc, od, dV, kV, doc, pm, an, ct, sl, rfl, lk, hcd⟩ := F.ex
  exact fn_of lk hcd S ln hb
theorem FunL.ok (F : FunL K mg bh x qu st f fd c T) (S : FnScope N ps (defScope st)) (ln : ∀ vs H Q E, sp vs H Q E → vs.length = ps.length)
    (hb : ∀ (B : Around) (ou : List Env) (t : Shared) (J : Hp) (ws : List V) (R : VK) (U : XK), Room k (B.deeper (envOfC qu (defScope st) t.heap.objs.size f (.ref c))) → sp ws J R U →
      ∃ tr, PSs (cxOf CX0 P w K mg bh N qu (defScope st) f (.ref c) B ou t J U).nox (defBody st) tr ∧ tr { nx := fun _ J' => R .non J', rt := R } (L2.start N ws) J) : FnOk P w K mg bh CX0 (k + 1) f fd ps sp := by
  obtain ⟨oc, od, dV, kV, doc, pm, an, ct, sl, rfl, lk, hcd⟩ := F.ex
  refine fn_of lk hcd S ln fun B ou t J ws R U rm h => ?_
  obtain ⟨tr, q, z⟩ := hb B ou t J ws R U rm h
  exact ⟨tr, q.nox, z⟩
end
/-! ### the end -/
end Spk
/-! max(xs), min(xs) of a list of ints -/
/-! o.m(e, .., k=v, ..), f(e, .., k=v, ..) -/
namespace Spk
open PySem PySem.Spec PyProof.Rows L2
section
variable {G : Gx} {X : Cx} {W : WX} {k j l n : Nat} {f : Addr} {fd : FuncData} {ps kn : List Str} {c m x : Str} {fn : List Cell → Rs D} {o e : Expr} {es : List Expr} {apos p pos : Pos} {kws : List Keyword} {fo : EX} {os kos : List Opd}
def eMethKX (n : Nat) (fn : List Cell → Rs D) (c m : Str) (l k : Nat) (gA : List Arg → List Arg → List Arg) (fo : EX) (os kos : List Opd) : EX := fun ρ => (fo ρ).bind fun d ρ1 => if isIns c d = true ∧ noKey m d = true then
  (evs os ρ1).bind fun as ρ2 => (evs kos ρ2).bind fun bs ρ3 => if as.length = l ∧ bs.length = k then appF n fn [] (.val d :: gA as bs) ρ3 else .bad else .bad
def eMethKN (n : Nat) (fn : List Cell → Rs D) (c m : Str) (l k : Nat) (gA : List Arg → List Arg → List Arg) (fo : EX) (os kos : List Opd) : EX := fun ρ => (fo ρ).bind fun d ρ1 => if isIns c d = true ∧ noKey m d = true then
  (evs os ρ1).bind fun as ρ2 => (evs kos ρ2).bind fun bs ρ3 => if as.length = l ∧ bs.length = k then (appF n fn [] (.val d :: gA as bs) ρ3).nx else .bad else .bad
def eCallKPX (n : Nat) (fn : List Cell → Rs D) (l k : Nat) (gA : List Arg → List Arg → List Arg) (os kos : List Opd) : EX := fun ρ => (evs os ρ).bind fun as ρ1 => (evs kos ρ1).bind fun bs ρ2 => if as.length = l ∧ bs.length = k then appF n fn [] (gA as bs) ρ2 else .bad
def eCallKPN (n : Nat) (fn : List Cell → Rs D) (l k : Nat) (gA : List Arg → List Arg → List Arg) (os kos : List Opd) : EX := fun ρ => (evs os ρ).bind fun as ρ1 => (evs kos ρ1).bind fun bs ρ2 => if as.length = l ∧ bs.length = k then (appF n fn [] (gA as bs) ρ2).nx else .bad
end
/-! ### a method that hands back a list of one's own -/
section
variable {G : Gx} {X : Cx} {W : WX} {k j l n : Nat} {f : Addr} {fd : FuncData} {ps kn : List Str} {c m x : Str} {fn : List Cell → Rs (List D)} {o e : Expr} {es : List Expr} {apos p pos : Pos} {kws : List Keyword} {fo : EX} {os kos : List Opd}
def fMethFX (n : Nat) (fn : List Cell → Rs (List D)) (c m : Str) (dfl : List D) (fo : EX) (os : List Opd) : PEnv → Rs (List D) := fun ρ => (fo ρ).bind fun d ρ1 => if isIns c d = true ∧ noKey m d = true then (evs os ρ1).bind fun as ρ2 => appF n fn dfl (.val d :: as) ρ2 else .bad
def fMethKX (n : Nat) (fn : List Cell → Rs (List D)) (c m : Str) (l k : Nat) (gA : List Arg → List Arg → List Arg) (fo : EX) (os kos : List Opd) : PEnv → Rs (List D) := fun ρ => (fo ρ).bind fun d ρ1 => if isIns c d = true ∧ noKey m d = true then
  (evs os ρ1).bind fun as ρ2 => (evs kos ρ2).bind fun bs ρ3 => if as.length = l ∧ bs.length = k then appF n fn [] (.val d :: gA as bs) ρ3 else .bad else .bad
def fMethKN (n : Nat) (fn : List Cell → Rs (List D)) (c m : Str) (l k : Nat) (gA : List Arg → List Arg → List Arg) (fo : EX) (os kos : List Opd) : PEnv → Rs (List D) := fun ρ => (fo ρ).bind fun d ρ1 => if isIns c d = true ∧ noKey m d = true then
  (evs os ρ1).bind fun as ρ2 => (evs kos ρ2).bind fun bs ρ3 => if as.length = l ∧ bs.length = k then (appF n fn [] (.val d :: gA as bs) ρ3).nx else .bad else .bad
end
end Spk
/-! a < b < c < d as a test -/
/-! xs[::-1] of a list -/
/-! a < b < c < d as a value -/
/-! x(lambda: e): a def that calls what it got in a try whose suites return -/
namespace Spk
open PySem PySem.Spec PyProof.Rows L2 LamX
/-- an expression whose operand may be of one class or of another -/
def eOrB (f g : EX) : EX := fun ρ => match f ρ with
  | .bad => g ρ
  | r => r
theorem de_orB {G : Gx} {X : Cx} {W : WX} {e : Expr} {f g : EX} (h1 : DE G X W e f) (h2 : DE G X W e g) : DE G X W e (eOrB f g) := by
  obtain ⟨t1, p1, q1⟩ := DE.elim h1
  obtain ⟨t2, p2, q2⟩ := DE.elim h2
  refine DE.intro ⟨fun σ H Q => t1 σ H Q ∨ t2 σ H Q, ⟨fun pins s σ H Q I h => ?_⟩, fun F σ H Hf ρ Q R p => ?_⟩
  · rcases h with h | h
    · exact p1.run pins s σ H Q I h
    · exact p2.run pins s σ H Q I h
  · unfold eOrB at p
    cases hf : f ρ with
    | bad => simp only [hf] at p; exact .inr (q2 F σ H Hf ρ Q R p)
    | ok d ρ' => simp only [hf] at p; exact .inl (q1 F σ H Hf ρ Q R (by rw [hf]; exact p))
    | exc C g d ρ' => simp only [hf] at p; exact .inl (q1 F σ H Hf ρ Q R (by rw [hf]; exact p))
end Spk
/-! C(e, .., kw = z) of a maker (self, *v, kw=..), what it raises let out -/
/-! list(o.m(k=v)) of a generator method -/
/-! {"a": x, ..}[w] -/
/-! a dict of one's own: {}, x[k] = e, x.get(k, d), list(x.items()) -/
/-! defaults that are empty tuples; a maker (self, *v, kw=()) called without its keyword -/
namespace Spk
open PySem PySem.Spec PyProof.Rows L2 StX
/-- an empty tuple that stands in the written part -/
def EmpT (K : PySem.W.Frag) (a : Addr) : Prop := ∃ (o : Obj) (n : Nat), K.lookup a = some o ∧ o.cls = .type "tuple" ∧ o.data = .seq #[] n
theorem EmpT.rp {G : Gx} {Hf : Hp} {a : Addr} (h : EmpT G.K a) : Rp G Hf (.ref a) (.tup []) := by
  obtain ⟨o, n, h1, h2, h3⟩ := h
  exact .tup (.inr ⟨o, #[], n, h1, h2, h3, Nat.zero_le _, .nil⟩) .nil
end Spk
/-! a list of one's own, read as a value for the time of one expression, and one's own again behind it -/
/-! tuples of ints compared by <= -/
/-! an exception out of a comprehension's element -/
namespace L2
open PySem PySem.Spec PyProof.Rows HandSPX
/-! ### the block whose element may raise -/
end L2
/-! e.rjust(n), e.ljust(n); e.split() -/
/-! f"{x:>8}", f"{n:,}": fields with a written specification -/
namespace KFs
open PySem PySem.Spec PyProof.Rows PySem.W Builtin Builtin.Str Builtin.Int Builtin.Float
/-- `>w`: flush right -/
def toR (w : Nat) : FormatSpec := { align := 62, width := some w }
end KFs
namespace L2
open PySem PySem.Spec PyProof.Rows KFs
end L2
namespace KFs
open PySem PySem.Spec PyProof.Rows PySem.W Builtin Builtin.Str Builtin.Int Builtin.Float L2
def rI (w : Nat) (i : Int) : Option Str := if i.natAbs.log2 < 1920 ∧ (intSpecText (toR w) i).length ≤ sizeLine then some (intSpecText (toR w) i) else none
end KFs
namespace L2
open PySem PySem.Spec PyProof.Rows
end L2
/-! range(i, j) of ints of any size -/
namespace L2
open PySem PySem.Spec PyProof.Rows
end L2
/-! f(a new list): lent for the call alone -/
/-! xs.count(x) -/
namespace Spk
open PySem PySem.Spec PyProof.Rows L2
section
variable {X : Cx}
def rCountD (K : PySem.W.Frag) : V → List V → Hp → VK → Prop := fun x xs H Q => ∃ (a : Addr) (y : V) (d : PyData) (ds : List PyData), x = V.ref a ∧ xs = [y] ∧ Dp K H (V.ref a) (.list ds) ∧ Dp K H y d ∧
  SeqAt.shaped (.list ds) = true ∧ SeqAt.shaped d = true ∧ Q (.int ((ds.countP fun z => PyData.eqv z d : Nat))) H
theorem mt_countD (hu : X.A.units + 65 < cLine) : MtR X "list.count" (rCountD X.K) := by
  intro pins s σ H x xs v us Q I rx rxs h
  obtain ⟨a, y, d, ds, rfl, rfl, hl, hy, sl, sd, q⟩ := h
  cases rx
  cases rxs with
  | cons ry rt =>
    rename_i uy ut
    cases rt
    obtain ⟨bs, r1⟩ := Dp.reads I d y uy hy ry
    have hxs : PyData.canLayAll0 ds = true := SeqAt.canLay_of_shaped sl
    have hroom : X.A.units + 1 + min (PyData.depthAll ds) d.depth < cLine := room_in_shaped sd hu
    cases hl with
    | lst hs ha =>
      obtain ⟨its, rv, ⟨⟨cls, dd, data, sls⟩, n, ho, hc, hdn, hdt⟩, hlen⟩ := I.list hs
      simp only at hc hdt
      subst hc hdt
      obtain ⟨as, h4⟩ := Dp.readsAll I ds _ its ha rv
      have hmap : its.map (SeqAt.readOf s.heap) = ds := SeqAt.readsAll_map ds its as hxs h4
      refine call_meets PySem.F.slot_list_count ⟨_, ho, rfl⟩ PySem.F.entry_list_count (PySem.F.args_list_count_2 _ _)
        (SeqAt.list_countAt a its.toArray n dd sls uy (fun u => PyData.eqv (SeqAt.readOf s.heap u) d)) ⟨ho, SeqAt.items_eqAt (vs := its.toArray) (show ReadsAll s.heap its.toArray.toList ds as from h4) r1 hxs (SeqAt.canLay_of_shaped sd) hroom, ?_⟩
      have ec : its.toArray.toList.countP (fun u => PyData.eqv (SeqAt.readOf s.heap u) d) = ds.countP (fun z => PyData.eqv z d) := by
        rw [← hmap, List.countP_map]; rfl
      rw [ec]
      exact ⟨.int ((ds.countP fun z => PyData.eqv z d : Nat)), H, I.tok _, ⟨_, rfl⟩, q⟩
end
def eCount (fo fe : EX) : EX := fun ρ => (fo ρ).bind fun d ρ1 => match d with
  | .lst ds => (fe ρ1).bind fun y ρ2 => Rs.lift (if (D.lst ds).fit = true ∧ y.fit = true then some (D.int (ds.countP fun z => eqv z y : Nat)) else none) ρ2
  | _ => .bad
theorem de_count {G : Gx} {X : Cx} {W : WX} {o e : Expr} {fo fe : EX} {apos cpos : Pos} (hu : X.A.units + 65 < cLine) (h : DE G X W o fo) (ha : DE G X W e fe) (hK : X.K = G.K := by rfl)
    (hbase : attributeBase o "count" X.env (eval o X.env) = eval o X.env := by rfl)
    (hfew : ((backTo cpos (starEach [e] X.env)).all (fun x => !x.1) && (backToKw cpos (keywordEach [] X.env)).all (fun x => x.1.isSome) && decide ([e].length + ([] : List Keyword).length + (if ([] : List Keyword).isEmpty then 0 else 1) < 30)) = true := by rfl)
    (hline : (apos.endLine == cpos.line) = true := by rfl) (hs : starEach [e] X.env = (false, eval e X.env) :: starEach [] X.env := by rfl) (hplain : (backTo cpos (starEach [] X.env)).any (·.1) = false := by rfl) :
    DE G X W (.Call (.Attribute o "count" apos) [e] [] cpos) (eCount fo fe) := by
  obtain ⟨t1, p1, q1⟩ := DE.elim h
  obtain ⟨t2, p2, q2⟩ := DE.elim ha
  refine DE.intro ⟨_, pe_bm PySem.F.plainAttrs_list PySem.F.slot_list_count PySem.F.type_list_count (mt_countD hu) p1 (pa_cons p2 pa_nil hs) hbase hfew hline hs hplain, fun F σ H Hf ρ Q R p => ?_⟩
  refine q1 F σ H Hf ρ _ R ((PostE.bind p).imp fun d H1 Hf1 ρ1 _ R1 s1 p v r => ?_)
  cases d with
  | lst ds =>
    have r' := r
    cases r' with
    | lst hh rl =>
      refine ⟨.inl ⟨rfl, _, SqL.hp (R1.sub _ _ hh)⟩, q2 F σ H1 Hf1 ρ1 _ R1 ((PostE.bind p).imp fun y H2 Hf2 ρ2 _ R2 s2 p u ru => ?_)⟩
      obtain ⟨d, hd, q⟩ := lift_post (H := H2) p
      by_cases cc : ¬ ((D.lst ds).fit = true ∧ y.fit = true)
      · rw [if_neg cc] at hd; cases hd
      have cc := Decidable.not_not.mp cc
      rw [if_pos cc] at hd
      cases hd
      obtain ⟨a1, a2⟩ := Rp.shp ((r.mono s2).mono R2.sub) cc.1
      obtain ⟨b1, b2⟩ := Rp.shp (ru.mono R2.sub) cc.2
      refine ⟨_, u, y.py, pys ds, rfl, rfl, hK ▸ a1, hK ▸ b1, a2, b2, ?_⟩
      have ec : (pys ds).countP (fun z => PyData.eqv z y.py) = ds.countP (fun z => eqv z y) := by
        rw [pys_map, List.countP_map]; rfl
      rw [ec]
      exact q H2 Hf2 R2 (Same.refl _) _ (.int _)
  | _ => exact p.elim
end Spk
/-! sorted({x for r in rs for x in r.y}), rs empty -/
namespace Spk
open PySem PySem.Spec PyProof.Rows L2
theorem setTurn0 (e t0 i0 t1 i1 : Expr) (c0 c1 : List Expr) (sc : Scope) (ps : Pos) (it ac : Value) (en : Env) :
    ∃ go : Value → Sem PySem.Fin, compTurn (.SetComp e [⟨t0, i0, c0, 0⟩, ⟨t1, i1, c1, 0⟩] sc ps) 0 it ac en = (standAt i0.pos >>= fun _ => pyNext it >>= fun r => match r with
      | none => pure (.done .next)
      | some v => go v) := ⟨_, rfl⟩
section
variable {P : Program} {w : World} {A : Around} {R : Result → Shared → Prop} {s : Shared} {e t0 i0 t1 i1 : Expr} {c0 c1 : List Expr} {sc : Scope} {ps : Pos} {it ac : Value} {en : Env}
theorem setLoop0 (z : wpAny (model P w) A (pyNext it) (fun r s2 => match r with
      | none => R (.ok .next) s2
      | some _ => False) (notedBy (model P w) A en fun x s2 => R (.error x) s2) s) : codeAny (model P w) A (.compLoop (.SetComp e [⟨t0, i0, c0, 0⟩, ⟨t1, i1, c1, 0⟩] sc ps) 0 it ac en) R s := by
  refine codeAny_loop rfl (fun _ y => y = s) (fun n y hy => ?_) 0 rfl
  subst hy
  show wpAny _ A ((compTurn (.SetComp e [⟨t0, i0, c0, 0⟩, ⟨t1, i1, c1, 0⟩] sc ps) 0 it ac en).onRaise (fun u => do noteFrame u en; theTreesLotGoes u)) _ _ y
  refine wpAny_noted ?_
  obtain ⟨go, eg⟩ := setTurn0 e t0 i0 t1 i1 c0 c1 sc ps it ac en
  rw [eg]
  refine wpAny_bind (wpAny_standAt (wpAny_bind (wpAny_mono z (fun r y2 q => ?_) fun _ _ q => q)))
  cases r with
  | none => exact wpAny_pure q
  | some v => exact q.elim
end
section
variable {X : Cx}
def tSc0 (w : World) (wi : TI) : TE := fun σ H Q => wi σ H fun J H1 => ∀ D, H1 D = none → J.stop 0 (upd H1 D (SetTO w D [] 0)) ∧ Q (.ref D) (upd H1 D (SetTO w D [] 0))
theorem setT_new {w : World} {h : Heap} : SetT w (h.push (setOb w)) h.objs.size [] 0 := setT_empty (Heap.get?_push_size _ rfl)
theorem sc0_core {σ : L2.St} {H : Hp} {pins : List (Addr × Obj)} {s : Shared} {Q : VK} {e tg iter tg1 iter1 : Expr} {c0 c1 : List Expr} {sc : Scope} {own : List (Str × Nat)} {ps ps2 : Pos} {wi : TI} {use : Option (Value → Sem Unit)} {Qf : Value → Shared → Prop}
    (hc : X.calm = true) (hN : X.N.Nodup) (I : Inv X pins σ H s) (hi : PI X tg iter wi) (ok : BlkOk X.N X.env.scope sc own) (hs : ∀ x, foldedSetIterable iter X.env x = pure x) (h : tSc0 X.w wi σ H Q)
    (fin : ∀ D C s2 m H2, Inv X pins σ H2 s2 → Q (.ref D) H2 → s2.heap.Ns C m → FpOk X pins H2 C → compPost (model X.prog X.w) X.A X.xe use Qf (.ref D) C (.ok .next) s2) :
    wpAny (model X.prog X.w) X.A (comprehension (.SetComp e [⟨tg, iter, c0, 0⟩, ⟨tg1, iter1, c1, 0⟩] sc ps) sc X.env ps2 (newSet (.type "set")) false (eval iter X.env) use) Qf X.xe s := by
  have fr : ∀ u ∈ sc.names, u.2 = .free → ∃ c, X.env.cells.lookup u.1 = some c := fun u hu z =>
    (ok.free u hu z).elim (fun k => I.ok.has _ (.inl k)) (fun k => I.ok.has _ (.inr k))
  refine wpAny_comprehension_free (use := use) rfl hs (closure_ok fr) ok.kind (fun u hu z => by rw [ok.uniq u hu, z])
    (thn (hi.run pins s σ H _ I h) fun xv s1 hx => thn hx fun itv s2 h2 => ?_)
  obtain ⟨it, fp, tn, J, H2, ei, I2, T, st2, f2, q⟩ := h2
  subst ei
  refine PpSet.newSet_ok (newEnv_comp ?_)
  generalize hD : s2.heap.objs.size = D
  obtain ⟨stop, qq⟩ := q D (I2.hok.fresh (Nat.le_of_eq hD))
  have hs3' := setT_new (w := X.w) (h := s2.heap)
  rw [hD] at hs3'
  generalize kz : ({ s2 with heap := s2.heap.push { cls := .type "set", dict := none, data := .set #[] 0 (.fresh 0 0 (!X.w.params.followText "set-order")) } } : Shared) = s3
  generalize hS : SetTO X.w D [] 0 = SD at stop qq
  have I3 : Inv X pins σ (upd H2 D SD) s3 := by
    rw [← kz, ← hS]
    exact I2.laid (t' := s2.toks) (fun b o z => Heap.get?_push_of_some _ z) (Nat.le_of_eq hD) (setTO_new hs3')
  have h3 : s3.heap = s2.heap.push (setOb X.w) := by rw [← kz]; rfl
  have lt2 : ∀ b ∈ fp, b < s2.heap.objs.size := fun b hb => (T.obj _ _ st2 b hb).elim fun o z => Heap.lt_size z.1
  have f3 : ∀ b ∈ fp, FpOk X pins (upd H2 D SD) b ∧ b < s3.heap.objs.size := fun b hb => by
    have lt := lt2 b hb
    refine ⟨⟨?_, (f2 b hb).2⟩, by rw [h3, Heap.size_push]; exact Nat.lt_succ_of_lt lt⟩
    rw [upd_ne (by rw [← hD]; exact Nat.ne_of_lt lt)]
    exact (f2 b hb).1
  have st3 : tn 0 s3.heap := T.keep _ _ _ st2 fun b _ o z => by rw [h3]; exact Heap.get?_push_of_some _ z
  have I4 := block_start I3 ok hN f3
  have nfp : ∀ b ∈ fp, (upd H2 D SD) b = none := fun b hb => (f3 b hb).1.1
  show codeAny _ _ (.compStart (.SetComp e [⟨tg, iter, c0, 0⟩, ⟨tg1, iter1, c1, 0⟩] sc ps) 0 (.ref it) (.ref D) (compEnvC sc (cellsFrom (s3.heap.objs.size + 1) sc.names (cloFrom X.env.cells sc.names [])) s3.heap.objs.size X.env)) (compPost (model X.prog X.w) X.A X.xe use Qf (.ref D) s3.heap.objs.size) _
  generalize hce : compEnvC sc (cellsFrom (s3.heap.objs.size + 1) sc.names (cloFrom X.env.cells sc.names [])) s3.heap.objs.size X.env = ce at I4 ⊢
  have cL : ce.locals = s3.heap.objs.size := by subst hce; rfl
  generalize hH3 : upd H2 D SD = H3 at I3 I4 nfp f3 stop qq
  show codeAny _ _ _ _ { s3 with heap := pushCells (s3.heap.push { cls := .type "dict", data := .dict #[] }) sc.names }
  generalize hs4 : ({ s3 with heap := pushCells (s3.heap.push { cls := .type "dict", data := .dict #[] }) sc.names } : Shared) = s4 at I4 ⊢
  have st4 : tn 0 s4.heap := T.keep _ _ _ st3 fun b _ o z => by rw [← hs4]; exact pushCells_keeps _ _ _ _ (Heap.get?_push_of_some _ z)
  have sta : ∀ b ∈ fp, FpOk (X.blk s3 H3 sc ce fp) [] H3 b := fun b hb =>
    ⟨nfp b hb, (I4.ok.exf b hb).1, I4.ok.exfs b hb, .inl hb, fun x c z => (I4.ok.exf b hb).2 x c z, fun p hp => absurd (show p ∈ ([] : List (Addr × Obj)) ++ [] from hp) (by simp)⟩
  have lp : codeAny (model X.prog X.w) X.A (.compLoop (.SetComp e [⟨tg, iter, c0, 0⟩, ⟨tg1, iter1, c1, 0⟩] sc ps) 0 (.ref it) (.ref D) ce) (compPost (model X.prog X.w) X.A X.xe use Qf (.ref D) s3.heap.objs.size) s4 := by
    refine setLoop0 (thnF (T.done (X.blk s3 H3 sc ce fp) rfl rfl rfl hc 0 [] s4 _ H3 (fun _ _ => False) I4 sta st4 stop) fun r s6 ⟨hr, I6⟩ => ?_)
    subst hr
    have I7 : Inv X pins σ H3 s6 := I3.call' (ch := fp) I6.os I6.base I6.hok I6.bare fun b hb => ⟨(f3 b hb).1.2.2.2.1, (f3 b hb).1.2.1, (f3 b hb).1.2.2.2.2.1, (f3 b hb).1.2.2.2.2.2⟩
    have nC : H3 s3.heap.objs.size = none := by rw [← cL]; exact I6.free
    obtain ⟨m, hn, _⟩ := I6.loc
    have hn : s6.heap.Ns ce.locals m := hn
    rw [cL] at hn
    exact fin D s3.heap.objs.size s6 m H3 I7 qq hn (I3.fpOk (Nat.le_refl _) nC)
  exact PpSet.codeAny_compStart_set lp (T.self X.A 0 _ _ _ st4 lp)
theorem pe_sc0 {e tg iter tg1 iter1 : Expr} {c0 c1 : List Expr} {sc : Scope} {own : List (Str × Nat)} {ps : Pos} {wi : TI} (hc : X.calm = true) (hN : X.N.Nodup) (hi : PI X tg iter wi) (ok : BlkOk X.N X.env.scope sc own) (hs : ∀ x, foldedSetIterable iter X.env x = pure x := by intro _; rfl) :
    PE X (.SetComp e [⟨tg, iter, c0, 0⟩, ⟨tg1, iter1, c1, 0⟩] sc ps) (tSc0 X.w wi) := by
  refine ⟨fun pins s σ H Q I h => ?_⟩
  rw [PpSet.eval_SetComp]
  refine sc0_core hc hN I hi ok hs h fun D C s2 m H2 I2 q hn ⟨f0, f1, f2, f3, f4, f5⟩ => ⟨m, hn, fun h3 sb => ?_⟩
  exact ⟨.ref D, H2, I2.turned (t' := s2.toks) (fun b o hb z => (sb.2 b hb).trans z) f0 f1 f3 f4 f5, rfl, q⟩
end
section
variable {G : Gx} {X : Cx} {W : WX} {e tg iter tg1 iter1 : Expr} {c0 c1 : List Expr} {sc : Scope} {own : List (Str × Nat)} {pos ps p : Pos} {it : PEnv → Rs (List D)}
/-- sorted({.. for r in rs for ..}), rs empty -/
def eSortSC0 (it : PEnv → Rs (List D)) : EX := fun ρ => (it ρ).bind fun ds ρ1 => match ds with
  | [] => .ok (.lst []) ρ1
  | _ => .bad
theorem de_sortSC0 (hi : DI G X W tg iter it) (ok : BlkOk X.N X.env.scope sc own) (hN : X.N.Nodup) (hg : Gl X "sorted") (hm : X.mg "sorted" = none) (hc : X.calm = true := by rfl) (hK : X.K = G.K := by rfl) (hs : ∀ x, foldedSetIterable iter X.env x = pure x := by intro _; rfl)
    (he : starEach [.SetComp e [⟨tg, iter, c0, 0⟩, ⟨tg1, iter1, c1, 0⟩] sc ps] X.env = (false, eval (.SetComp e [⟨tg, iter, c0, 0⟩, ⟨tg1, iter1, c1, 0⟩] sc ps) X.env) :: starEach [] X.env := by rfl) (hpl : (backTo pos (starEach [] X.env)).any (·.1) = false := by rfl) :
    DE G X W (.Call (.Name "sorted" p) [.SetComp e [⟨tg, iter, c0, 0⟩, ⟨tg1, iter1, c1, 0⟩] sc ps] [] pos) (eSortSC0 it) := by
  obtain ⟨wi, p1, q1⟩ := hi
  refine DE.intro ⟨_, pe_callB (cr_sortSetT hc) hg hm (by decide +kernel) (pa_cons (pe_sc0 hc hN p1 ok hs) pa_nil he) (by decide) (by decide) he hpl, fun F σ H Hf ρ Q R p => ?_⟩
  refine q1 F σ H Hf ρ _ R ((PostE.bind p).imp fun ds H1 Hf1 ρ1 _ R1 s1 p J wk D nD => ?_)
  cases ds with
  | cons d ds => exact p.elim
  | nil =>
    have R2 := R1.side nD (SetTO X.w D [] 0)
    refine ⟨(wk F σ _ Hf1 ρ1 0 R2 (Same.refl _)).2.1, D, [], 0, rfl, upd_same, fun ms r up nd hms nr => ?_⟩
    have e0 : ms = [] := List.eq_nil_iff_forall_not_mem.mpr fun k hk => absurd ((hms k).mp hk) List.not_mem_nil
    subst e0
    obtain ⟨R', s', r'⟩ := R2.laid nr (show RpL G _ [] [] from .nil)
    exact p _ _ R' s' _ r'
end
end Spk
/-! isinstance by a class that others stand on -/
namespace Spk
open PySem PySem.Spec PyProof.Rows L2
theorem kit_yes {K : PySem.W.Frag} {C D : Addr} (h2 : PySem.W.isClsIn K D = true) (h3 : PySem.W.typeIn K (.ref D) = some (.type "type")) (h4 : PySem.W.subIn K (.ref C) (.ref D) = some true) : PySem.W.kitOne K (.ref C) (.ref D) = some true := by
  show (if (Value.ref C == Value.ref D) = true then some true else PySem.W.kitCls K (.ref C) (.ref D)) = some true
  split
  · rfl
  · exact kit_mk h2 h3 h4
end Spk
/-! enumerate(t, start=k), t a tuple -/
namespace Spk
open PySem PySem.Spec PyProof.Rows L2
section
variable {P : Program} {w : World} {A : Around} {E : Value → Shared → Prop} {s : Shared} {en : Env}
theorem ty_kw {ps : Pos} {T : String} {us : List (Bool × Sem Value)} {ks : List (Option Str × Sem Value)} {Q : Value → Shared → Prop} (n1 : us.any (·.1) = false) (n2 : ks.any (·.1.isNone) = false)
    (z : wpAny (model P w) A (evalArgs (.type T) true us ks) (fun a s2 => wpAny (model P w) A (call (.type T) a.pos a.kw) Q E s2) E s) : wpAny (model P w) A (callWith ps (.type T) [] us ks) Q E s := by
  unfold callWith
  refine wpAny_bind (wpAny_holding (wpAny_mono z (fun a s2 q => wpAny_bind (wpAny_standAt ?_)) fun _ _ y => y))
  simp only [n1, n2, Bool.or_false]
  refine wpAny_bind (wpAny_pure ?_)
  exact wpAny_bind (wpAny_mono q (fun r s3 qr => wpAny_bind (wpAny_holding (wpAny_point (wpAny_pure qr)))) fun _ _ y => y)
end
/-- enumerate(tuple, start=k) -/
def ItS (K : PySem.W.Frag) (a : Addr) (k : Int) : It where
  go := fun i H => ∃ (xs : List V) (x : V), SqT K H a xs ∧ xs[i]? = some x
  yld := fun i H v H' => ∃ T x, v = .ref T ∧ H T = none ∧ H' = upd H T (.tup [.int (k + (i : Nat)), x]) ∧ ∀ xs, SqT K H a xs → xs[i]? = some x
  stop := fun i H => ∃ xs : List V, SqT K H a xs ∧ xs.length ≤ i
theorem turnS {P : Program} {w : World} {K : PySem.W.Frag} {elts : List Expr} {kk : Nat} {tpos : Pos} {k : Int} (a e it : Addr) (hai : a ≠ it) (hae : e ≠ a) :
    Turn P w K (.Tuple elts kk tpos) (ItS K a k) [e, it] e (fun i h => (∃ old, IsEnum h e it (k + (i : Nat)) old) ∧ h.IsTupleIter it a i ∧ e ≠ it) where
  mem := List.mem_cons_self
  obj := by
    rintro i h ⟨⟨old, he⟩, ⟨o, ho, hc, hd⟩, _⟩ b hb
    rcases mem2 hb with rfl | rfl
    · exact ⟨_, he, fun v q => nomatch q⟩
    · exact ⟨o, ho, fun v q => by rw [hd] at q; cases q⟩
  keep := by
    rintro i h h' ⟨⟨old, he⟩, hi, hne⟩ kk
    exact ⟨⟨old, kk e (by simp) _ he⟩, hi.at fun o q => kk it (by simp) o q, hne⟩
  item := by
    intro X hP hw hK hc i pins s σ H E I hf st hg
    subst hP hw hK
    obtain ⟨⟨old, he⟩, hit, hne⟩ := st
    obtain ⟨xs, x, hq, hx⟩ := hg
    obtain ⟨its, rv, p, hz⟩ := I.tuple hq
    obtain ⟨u, hu, ru⟩ := rv.get hx
    have hu' : its.toArray[i]? = some u := by simpa using hu
    have hlt : i < its.toArray.size := (Array.getElem?_eq_some_iff.mp hu').1
    have hT : s.heap.IsTuple a its.toArray := p
    have hel : e < s.heap.objs.size := Heap.lt_size he
    have hil : it < s.heap.objs.size := by obtain ⟨_, q, _⟩ := hit; exact Heap.lt_size q
    have D := Draws.tuple (prog := X.prog) (w := X.w) (A := X.A.in1) (I.ok.hd hc) it a hai its.toArray
    refine wpAny_pyNext_enum_itemC D he ⟨hit, hT⟩ hlt hne (fun hm => ?_) fun y g tk hy ho hst hTp hsz hk => ?_
    · rcases mem2 hm with z | z
      · exact hne z
      · exact hae z
    · obtain rfl : u = y := Option.some.inj (hu'.symm.trans hy)
      refine ⟨_, rfl, wpAny_letOwnedTupleGo_enum (s := { s with heap := g, toks := tk + 1 }) ho fun g2 he2 sb => ?_⟩
      have hT2 : g2.get? s.heap.objs.size = some { cls := .type "tuple", data := .seq #[.int (k + (i : Nat)) tk, u] } := (sb.2 _ (Nat.ne_of_gt hel)).trans hTp
      have new : ObjOk X.prog X.w (upd H s.heap.objs.size (.tup [.int (k + (i : Nat)), x])) g2 s.heap.objs.size (.tup [.int (k + (i : Nat)), x]) :=
        ⟨by show 2 ≤ sizeLine; decide, [.int (k + (i : Nat)) tk, u], .cons ⟨_, rfl⟩ (.cons ru .nil), ⟨_, hT2, rfl, _, rfl⟩⟩
      have I1 : Inv X pins σ (upd H s.heap.objs.size (.tup [.int (k + (i : Nat)), x])) { s with heap := g2, toks := tk + 1 } := by
        refine I.turnedNew (ch := [e, it]) (fun b ob hb q => ?_) hf (Nat.le_refl _) new
        have n1 : b ≠ e := fun z => hb (by simp [z])
        have n2 : b ≠ it := fun z => hb (by simp [z])
        exact (sb.2 b n1).trans (hk b ob n1 n2 q)
      refine ⟨.ref s.heap.objs.size, _, I1, rfl, ⟨_, x, rfl, I.hok.fresh (Nat.le_refl _), rfl, fun ys hy => by rw [I.tuple_inj hy hq]; exact hx⟩, ⟨⟨u, ?_⟩, hst.1.at fun o q => (sb.2 it (Ne.symm hne)).trans q, hne⟩, fun b hb => ?_⟩
      · have e1 : k + ((i + 1 : Nat) : Int) = k + (i : Nat) + 1 := by omega
        rw [e1]; exact he2
      · have hlb : b < s.heap.objs.size := by rcases mem2 hb with rfl | rfl <;> assumption
        exact (upd_ne (Nat.ne_of_lt hlb)).trans (hf b hb).1
  done := by
    intro X hP hw hK hc i pins s σ H E I hf st hg
    subst hP hw hK
    obtain ⟨⟨old, he⟩, hit, hne⟩ := st
    obtain ⟨xs, hq, hx⟩ := hg
    obtain ⟨its, rv, p, hz⟩ := I.tuple hq
    obtain ⟨f0, f1, f2, f3, f4, f5⟩ := hf it (by simp)
    have hT : s.heap.IsTuple a its.toArray := p
    have hl := rv.length
    have hT2 : its.toArray[i]? = none := by simp; omega
    refine (show wpAny (model X.prog X.w) X.A (pyNext (.ref e)) _ E s from ?_)
    have hTy : s.TypeIs (.ref e) "enumerate" := ⟨_, he, rfl⟩
    unfold pyNext
    refine wpAny_bind (wpAny_attempt (wpAny_callSpecial?_slot (name := Str.ofString "__next__") hTy F.slot_enumerate_next
      (wpAny_call_entry F.slot_enumerate_next hTy F.entry_enumerate_next ?_ (F.args_enumerate_next_1 _))))
    show wpAny _ _ (field (.ref e) 2 >>= _) _ _ _
    refine wpAny_bind (wpAny_field he rfl (x := .ref it) rfl ?_)
    refine wpAny_bind (wpAny_nextOf_tuple_end (I.ok.hd hc) hit hT hT2 fun g x eb hx' => ?_)
    obtain ⟨o, ho, hcl⟩ := hx'
    refine wpAny_bind (wpAny_isInstance (T := "StopIteration") (b := true) ⟨o, ho, hcl⟩ isSubtype_stop ?_)
    exact wpAny_pure ⟨rfl, I.turned (t' := s.toks) (fun b o hb q => eb b o hb q) f0 f1 f3 f4 f5⟩
  self := by
    rintro A i s Q E ⟨⟨_, he⟩, _⟩ h
    exact wpAny_pyIter_enum he h
theorem walkS {K : PySem.W.Frag} {a : Addr} {k : Int} {xs : List V} : Walk (ItS K a k) xs.length (fun H => SqT K H a xs) (YPair (fun i => some (.int (k + (i : Nat)))) (fun i => xs[i]?)) where
  goes := fun i _ hi q => ⟨xs, xs[i], q, by simp [hi]⟩
  stops := fun _ q => ⟨xs, q, Nat.le_refl _⟩
  yields := by
    rintro i H v H' _ q ⟨T, x, h1, h2, h3, h4⟩
    exact ⟨T, .int (k + (i : Nat)), x, h1, h2, h3, rfl, h4 xs q⟩
def iEnS (K : PySem.W.Frag) (ta : TA) (t2 : TE) : TI := fun σ H R => ta σ H fun vs H1 => t2 σ H1 fun y H2 => ∃ a xs k, vs = [.ref a] ∧ y = .int k ∧ -(2 ^ 62) ≤ k ∧ k < 2 ^ 62 ∧ SqT K H2 a xs ∧ R (ItS K a k) H2
section
variable {G : Gx} {X : Cx} {W : WX} {e e2 tg : Expr} {pos p kp : Pos}
theorem pi_enS {ta : TA} {t2 : TE} {tpos : Pos} {elts : List Expr} {kk : Nat} (hg : Gl X "enumerate") (hm : X.mg "enumerate" = none) (ha : PA X [e] ta) (h2 : PE X e2 t2) (hs : starEach [e] X.env = [(false, eval e X.env)] := by rfl)
    (hee : eval (.Call (.Name "enumerate" p) [e] [⟨some "start", e2, kp⟩] pos) X.env = (do callWith pos (← eval (.Name "enumerate" p) X.env) [] (backTo pos (starEach [e] X.env)) (backToKw pos (keywordEach [⟨some "start", e2, kp⟩] X.env))) := by rfl) :
    PI X (.Tuple elts kk tpos) (.Call (.Name "enumerate" p) [e] [⟨some "start", e2, kp⟩] pos) (iEnS X.K ta t2) := by
  refine ⟨fun pins s σ H R I h => ?_⟩
  rw [hee]
  refine wpAny_bind (ld_blt I hg hm boot_enumerate (ty_kw (by rw [hs]; rfl) rfl ?_))
  have e0 : backTo pos (starEach [e] X.env) = [(false, eval e X.env)] := by rw [hs]; rfl
  have run := ha.run pos pins s σ H _ I h
  rw [e0] at run ⊢
  refine evalArgs_kwB rfl (thn run fun us s1 hh => ?_)
  obtain ⟨vs, H1, I1, r1, q1⟩ := hh
  refine kws_cons (thn (h2.run pins s1 σ H1 _ I1 q1) fun u2 s2 hh2 => kws_nil ?_)
  obtain ⟨y, H2, I2, r2, a, xs, k, rfl, rfl, k0, k1, hq, q⟩ := hh2
  obtain ⟨u, rfl, ru⟩ := vals1 r1
  obtain rfl : u = Value.ref a := ru
  obtain ⟨t, rfl⟩ := r2
  have fp : ∀ b ∈ [s2.heap.objs.size + 1, s2.heap.objs.size], FpOk X pins H2 b := fun b hb => by
    have hle : s2.heap.objs.size ≤ b := by rcases mem2 hb with rfl | rfl <;> omega
    exact I2.fpOk hle (I2.hok.fresh hle)
  obtain ⟨its, rv, p', hz⟩ := I2.tuple hq
  have hT : s2.heap.IsTuple a its.toArray := p'
  have hlt : a < s2.heap.objs.size := by obtain ⟨_, z, _⟩ := hT; exact Heap.lt_size z
  refine enum_begins_start (begins_tuple a its.toArray) hT (by omega) (by omega) fun g he hit hsz hk => wpAny_pyIter_enum he ?_
  refine ⟨s2.heap.objs.size + 1, [s2.heap.objs.size + 1, s2.heap.objs.size], _, _, H2, rfl, I2.kept (t' := s2.toks) hk, turnS a _ _ (Nat.ne_of_lt hlt) (Nat.ne_of_gt (Nat.lt_succ_of_lt hlt)), ⟨⟨.none, ?_⟩, ⟨_, hit, rfl, rfl⟩, Nat.succ_ne_self _⟩, fp, q⟩
  have e1 : k + ((0 : Nat) : Int) = k := by simp
  rw [e1]
  exact he
def enuS (k : Int) (ds : List D) : List D := ds.zipIdx.map fun p => .tup [.int (k + (p.2 : Nat)), p.1]
theorem enuS_len (k : Int) (ds : List D) : (enuS k ds).length = ds.length := by simp [enuS]
theorem enuS_at {k : Int} {ds : List D} {i : Nat} {d : D} (h : ds[i]? = some d) : (enuS k ds)[i]? = some (.tup [.int (k + (i : Nat)), d]) := by
  simp [enuS, List.getElem?_zipIdx, h]
def fEnS (f f2 : EX) : PEnv → Rs (List D) := fun ρ => (f ρ).bind fun d ρ1 => (f2 ρ1).bind fun d2 ρ2 => match d, d2 with
  | .tup ds, .int k => if -(2 ^ 62) ≤ k ∧ k < 2 ^ 62 then .ok (enuS k ds) ρ2 else .bad
  | _, _ => .bad
theorem di_enS {f f2 : EX} {tpos : Pos} {elts : List Expr} {kk : Nat} (h : DE G X W e f) (h2 : DE G X W e2 f2) (hg : Gl X "enumerate") (hm : X.mg "enumerate" = none) (hK : X.K = G.K := by rfl) (hs : starEach [e] X.env = [(false, eval e X.env)] := by rfl)
    (hee : eval (.Call (.Name "enumerate" p) [e] [⟨some "start", e2, kp⟩] pos) X.env = (do callWith pos (← eval (.Name "enumerate" p) X.env) [] (backTo pos (starEach [e] X.env)) (backToKw pos (keywordEach [⟨some "start", e2, kp⟩] X.env))) := by rfl) :
    DI G X W (.Tuple elts kk tpos) (.Call (.Name "enumerate" p) [e] [⟨some "start", e2, kp⟩] pos) (fEnS f f2) := by
  obtain ⟨t, p1, q1⟩ := DE.elim h
  obtain ⟨t2, p2, q2⟩ := DE.elim h2
  refine ⟨_, pi_enS hg hm (pa_cons p1 pa_nil hs) p2 hs hee, fun F σ H Hf ρ R Rr p => ?_⟩
  refine q1 F σ H Hf ρ _ Rr ((PostE.bind p).imp fun d H1 Hf1 ρ1 _ R1 s1 p v r => ?_)
  refine q2 F σ H1 Hf1 ρ1 _ R1 ((PostE.bind p).imp fun d2 H2 Hf2 ρ2 _ R2 s2 p w r2 => ?_)
  cases d with
  | tup ds =>
    cases d2 with
    | int k =>
      obtain rfl := rp_i r2
      obtain ⟨a, vs, rfl, q, rl⟩ := rp_t (r.mono s2)
      change PostE G F W σ Hf2 _ (if -(2 ^ 62) ≤ k ∧ k < 2 ^ 62 then Rs.ok (enuS k ds) ρ2 else Rs.bad) at p
      by_cases c : -(2 ^ 62) ≤ k ∧ k < 2 ^ 62
      · rw [if_pos c] at p
        refine ⟨a, vs, k, rfl, rfl, c.1, c.2, hK ▸ sameT R2.sub q, p H2 Hf2 R2 (Same.refl _) _ ?_⟩
        rw [hK]
        exact walkD_pair walkS (by rw [enuS_len, rl.len]) (fun F σ H Hf' ρ R s => sameT R.sub (sameT s q)) fun i x y h1 h2 => by
          cases h1
          obtain ⟨d, h3, r3⟩ := rl.get h2
          exact ⟨_, d, enuS_at h3, .int _, r3⟩
      · rw [if_neg c] at p; exact p.elim
    | _ => exact p.elim
  | _ => exact p.elim
end
end Spk
/-! a test whose operand may be of one class or of another -/
namespace Spk
open PySem PySem.Spec PyProof.Rows L2
def bOrB (f g : BX) : BX := fun ρ => match f ρ with
  | .bad => g ρ
  | r => r
theorem dt_orB {G : Gx} {X : Cx} {W : WX} {e : Expr} {f g : BX} (h1 : DT G X W e f) (h2 : DT G X W e g) : DT G X W e (bOrB f g) := by
  obtain ⟨t1, p1, q1⟩ := h1
  obtain ⟨t2, p2, q2⟩ := h2
  refine ⟨fun σ H Q => t1 σ H Q ∨ t2 σ H Q, ⟨fun pins s σ H Q I h => ?_⟩, fun F σ H Hf ρ Q R p => ?_⟩
  · rcases h with h | h
    · exact p1.run pins s σ H Q I h
    · exact p2.run pins s σ H Q I h
  · unfold bOrB at p
    cases hf : f ρ with
    | bad => simp only [hf] at p; exact .inr (q2 F σ H Hf ρ Q R p)
    | ok d ρ' => simp only [hf] at p; exact .inl (q1 F σ H Hf ρ Q R (by rw [hf]; exact p))
    | exc C g d ρ' => simp only [hf] at p; exact .inl (q1 F σ H Hf ρ Q R (by rw [hf]; exact p))
/-! over any environment -/
theorem orB1 {f g : EX} {ρ ρ1 : PEnv} {d : D} (h : f ρ = .ok d ρ1) : eOrB f g ρ = .ok d ρ1 := by
  unfold eOrB
  rw [h]
theorem orB2 {f g : EX} {ρ : PEnv} {r : Rs D} (h : f ρ = .bad) (k : g ρ = r) : eOrB f g ρ = r := by
  unfold eOrB
  rw [h]
  exact k
theorem borB1 {f g : BX} {ρ ρ1 : PEnv} {b : Bool} (h : f ρ = .ok b ρ1) : bOrB f g ρ = .ok b ρ1 := by
  unfold bOrB
  rw [h]
theorem borB2 {f g : BX} {ρ : PEnv} {r : Rs Bool} (h : f ρ = .bad) (k : g ρ = r) : bOrB f g ρ = r := by
  unfold bOrB
  rw [h]
  exact k
end Spk
/-! the text of spanloops_k38_wishes_made -/
namespace Spk
open PySem PySem.Spec PyProof.Rows L2
def topS (i : Nat) : Stmt := PySem.Challenge.pw_spanloops_k38_wishes_made.main.body.getD i (.Pass ⟨0, 0, 0, 0⟩)
structure Blt (mg : Str → Option Value) : Prop where
  b_abs : mg "abs" = none
  b_any : mg "any" = none
  b_bool : mg "bool" = none
  b_enumerate : mg "enumerate" = none
  b_int : mg "int" = none
  b_isinstance : mg "isinstance" = none
  b_len : mg "len" = none
  b_max : mg "max" = none
  b_min : mg "min" = none
  b_range : mg "range" = none
  b_set : mg "set" = none
  b_sorted : mg "sorted" = none
  b_str : mg "str" = none
  b_tuple : mg "tuple" = none
structure Txt (K : PySem.W.Frag) (mg : Str → Option Value) : Prop where
  g_FIRST : ∃ t, mg "FIRST" = some (.int (-10000000000000000000000000000000) t)
  g_LAST : ∃ t, mg "LAST" = some (.int (10000000000000000000000000000000) t)
  g_FAR : ∃ t, mg "FAR" = some (.int (1000000000000000000000000000000) t)
  ends : EndsT K mg
def tb_own : List (String × Bool) := [("int", false), ("tuple", false), ("str", false), ("NoneType", false)]
abbrev sp_law := lawSp
abbrev TT : List (Str × Str) := []
def ow_Moments : List (Str × Bool) := [("Moments", true), ("Answer", false), ("Number", false), ("Loop", false)]
def ow_Answer : List (Str × Bool) := [("Moments", false), ("Answer", true), ("Number", false), ("Loop", false)]
def ow_Number : List (Str × Bool) := [("Moments", false), ("Answer", false), ("Number", true), ("Loop", false)]
def ow_Wish : List (Str × Bool) := [("Moments", true), ("Answer", true), ("Number", true), ("Loop", false)]
structure Kits (K : PySem.W.Frag) (mg : Str → Option Value) (cm : Str → Addr) : Prop where
  k_Moments : KitF (Gx.mk K cm none TT) (.ref (cm "Moments")) tb_own ow_Moments
  k_Answer : KitF (Gx.mk K cm none TT) (.ref (cm "Answer")) tb_own ow_Answer
  k_Number : KitF (Gx.mk K cm none TT) (.ref (cm "Number")) tb_own ow_Number
  k_Wish : KitF (Gx.mk K cm none TT) (.ref (cm "Wish")) tb_own ow_Wish
  g_Moments : mg "Moments" = some (.ref (cm "Moments"))
  cl_Moments : Cls K (cm "Moments")
  g_Answer : mg "Answer" = some (.ref (cm "Answer"))
  cl_Answer : Cls K (cm "Answer")
  g_Number : mg "Number" = some (.ref (cm "Number"))
  cl_Number : Cls K (cm "Number")
  g_Loop : mg "Loop" = some (.ref (cm "Loop"))
  cl_Loop : Cls K (cm "Loop")
  g_Wish : mg "Wish" = some (.ref (cm "Wish"))
  fo_Moments_which : FldOk (Gx.mk K cm none TT) ["Moments"] "which"
  fo_Moments_within : FldOk (Gx.mk K cm none TT) ["Moments"] "within"
  fo_Moments_form : FldOk (Gx.mk K cm none TT) ["Moments"] "form"
  fo_Answer_Number_what : FldOk (Gx.mk K cm none TT) ["Answer", "Number"] "what"
  fo_Answer_what : FldOk (Gx.mk K cm none TT) ["Answer"] "what"
  fo_Number_what : FldOk (Gx.mk K cm none TT) ["Number"] "what"
  fo_Moments_Answer_Number_ends : FldOk (Gx.mk K cm none TT) ["Moments", "Answer", "Number"] "ends"
  fo_Moments_ends : FldOk (Gx.mk K cm none TT) ["Moments"] "ends"
  fo_Answer_ends : FldOk (Gx.mk K cm none TT) ["Answer"] "ends"
  fo_Number_ends : FldOk (Gx.mk K cm none TT) ["Number"] "ends"
  fo_Loop_order : FldOk (Gx.mk K cm none TT) ["Loop"] "order"
  fo_Loop_ahead : FldOk (Gx.mk K cm none TT) ["Loop"] "ahead"
  fo_Loop_each : FldOk (Gx.mk K cm none TT) ["Loop"] "each"
  fo_Loop_behind : FldOk (Gx.mk K cm none TT) ["Loop"] "behind"
  fo_Loop_known : FldOk (Gx.mk K cm none TT) ["Loop"] "known"
  gt_EVENT_ORDERS : GlT K mg "EVENT_ORDERS" [(.str "at"), (.str "at in"), (.str "at out")]
  gt_STRETCH_ORDERS : GlT K mg "STRETCH_ORDERS" [(.str "any"), (.str "begin"), (.str "begin end"), (.str "begin back"), (.str "end"), (.str "end begin"), (.str "end back")]
  gt_TIMES : GlT K mg "TIMES" [(.str "some"), (.str "none"), (.str "all"), (.str "one"), (.str "two"), (.str "each"), (.str "inside")]
  gt_FORMS : GlT K mg "FORMS" [(.str "any"), (.str "full"), (.str "one"), (.str "cut")]
  gt_ANSWERS : GlT K mg "ANSWERS" [(.str "busy"), (.str "covered"), (.str "clash")]
  gt_NUMBERS : GlT K mg "NUMBERS" [(.str "all"), (.str "full"), (.str "left"), (.str "within"), (.str "touched"), (.str "pieces")]
  nf_Moments : NfF (Gx.mk K cm none TT) "Moments" ["Moments", "Answer", "Number", "Loop"]
  nf_Answer : NfF (Gx.mk K cm none TT) "Answer" ["Moments", "Answer", "Number", "Loop"]
  nf_Number : NfF (Gx.mk K cm none TT) "Number" ["Moments", "Answer", "Number", "Loop"]
  e_Loop_init_behind : EmpT K (cm "()Loop.__init__.behind")
  e_Loop_init_each : EmpT K (cm "()Loop.__init__.each")
  e_Loop_init_ahead : EmpT K (cm "()Loop.__init__.ahead")
  ne_Moments : PySem.W.findIn K (.ref (cm "Moments")) "__ne__" = some (some (.builtin "object.__ne__"))
  ob_Moments : PySem.W.mroIn K (cm "Moments") (.type "object") = some true
  ne_Answer : PySem.W.findIn K (.ref (cm "Answer")) "__ne__" = some (some (.builtin "object.__ne__"))
  ob_Answer : PySem.W.mroIn K (cm "Answer") (.type "object") = some true
  ne_Number : PySem.W.findIn K (.ref (cm "Number")) "__ne__" = some (some (.builtin "object.__ne__"))
  ob_Number : PySem.W.mroIn K (cm "Number") (.type "object") = some true
  nil : True
end Spk
namespace Spk
open PySem PySem.Spec PyProof.Rows L2
local macro_rules | `(tactic| walk_at "ne") => `(tactic| first | assumption | exact Ne.symm (by assumption) | exact ne_of_none (by walk_at "hp") (by assumption) | exact Ne.symm (ne_of_none (by walk_at "hp") (by assumption)))
local macro_rules | `(tactic| walk_at "hp") => `(tactic| first | assumption | exact upd_same | (refine Eq.trans (upd_ne ?_) ?_; (focus walk_at "ne"); walk_at "hp"))
local macro_rules | `(tactic| walk_at "fact") => `(tactic| first | rfl | assumption | exact SqL.hp (by walk_at "hp") | exact SqT.hp (by walk_at "hp") | walk_at "hp" | exact Or.inl (SqL.hp (by walk_at "hp")) | exact Or.inr (SqT.hp (by walk_at "hp")) | omega | decide | exact Nat.le_of_ble_eq_true rfl | exact lgDiv (by omega) (by omega) | exact Or.inl ⟨by omega, by omega⟩ | exact Or.inr ⟨by omega, by omega⟩ | exact ⟨by omega, by omega⟩ | exact ⟨by omega, by omega, by omega⟩)
local macro_rules | `(tactic| walk_at "vc1") => `(tactic| first
  | (refine And.intro ?_ ?_; (focus walk_at "fact"))
  | refine iteF ?_
  | refine iteT ?_
  | refine ite2 (fun _ => ?_) (fun _ => ?_)
  | apply Exists.intro
  | (refine Or.inl ?_; apply Exists.intro; refine And.intro rfl ?_)
  | (refine Or.inr ?_; apply Exists.intro; refine And.intro rfl ?_))
local macro_rules | `(tactic| walk_at "vc") => `(tactic| repeat' (walk_at "vc1"))
/-! _law_bag -/
abbrev s_l_bag : Stmt := topS 85
abbrev sc_l_bag_N : List Str := ["_law_script", "_law_at", "_law_cell", "_law_mixed", "_law_k", "_law_one"]
theorem sc_l_bag : FnScope sc_l_bag_N ["_law_script", "_law_at"] (defScope s_l_bag) := ⟨rfl, rfl, rfl, by decide +kernel, rfl, by decide +kernel, by decide +kernel⟩
def t_l_bag_1 : SX :=
    (sSet 2 (eIf (bBl (eOp (op2 ltD) [(.ex (eVar 1)), (.ex (eOp (op1 lenD) [(.ex (eVar 0))]))])) (eOp (op2 ixD) [(.ex (eVar 0)), (.ex (eVar 1))]) (eC (.int 0))))
def t_l_bag_2 : SX :=
    (sSet 3 (eOp (op2 addD) [(.ex (eOp (op2 mulD) [(.ex (eC (.int 5227))), (.ex (eVar 1))])), (.ex (eC (.int 977)))]))
def t_l_bag_3 : SX :=
    (sSet 3 (eOp (op2 modD) [(.ex (eOp (op1 intD) [(.ex (eOp (op2 addD) [(.ex (eOp (op2 addD) [(.ex (eOp (op2 addD) [(.ex (eOp (op2 mulD) [(.ex (eVar 3)), (.ex (eC (.int 40692)))])), (.ex (eOp (op2 modD) [(.ex (eOp (op1 intD) [(.ex (eVar 5))])), (.ex (eC (.int 2147483563)))]))])), (.ex (eOp (op2 mulD) [(.ex (eC (.int 211))), (.ex (eVar 4))]))])), (.ex (eC (.int 5)))]))])), (.ex (eC (.int 2147483399)))]))
def b_l_bag_1 : SX :=
    t_l_bag_3
def t_l_bag_4 : SX :=
    (sFor (fEnu (eSl (.ex (eVar 0)) none (some (eC (.int 60))))) (gTupD 2 (gsCons (gSet 4) (gsCons (gSet 5) gsNil)))
    b_l_bag_1)
def t_l_bag_5 : SX :=
    (sRetF (fLst [(.ex (eIf (bBl (eOp (op2 geD) [(.ex (eOp (op1 absD) [(.ex (eVar 2))])), (.ex (eOp (op2 powD) [(.ex (eC (.int 10))), (.ex (eC (.int 18)))]))])) (eOp (op1 absD) [(.ex (eVar 2))]) (eC (.int 0)))), (.ex (eVar 3))]))
def sem_l_bag : SX :=
    (sSeq t_l_bag_1
    (sSeq t_l_bag_2
    (sSeq t_l_bag_4
    t_l_bag_5)))
def fn_l_bag : List Cell → Rs (List D) := fnN (fnBF 6 sem_l_bag)
section
variable {P : Program} {w : World} {K : PySem.W.Frag} {mg : Str → Option Value} {bh : Heap}
theorem ok_l_bag {f : Addr} {fd : FuncData} {cm : Str → Addr} (B : Blt mg) (T : Txt K mg) (KI : Kits K mg cm) (F : Fun K "_law_bag" "_law_bag" s_l_bag f fd) : FnOk P w K mg bh CX0 1 f fd ["_law_script", "_law_at"] (spF (Gx.mk K cm none TT) 2 fn_l_bag) := by
  refine F.ok sc_l_bag (spQ_len rfl) (fun cdv A outer s H vs Q E hr h => ?_)
  exact body_ofNF (G := (Gx.mk K cm none TT))
      (dss_cons (ds_set (i := 2) sc_l_bag.nd (de_ifExp (dt_cmp od_lt (de_var (i := 1)) (de_callB cd_len (by rfl) B.b_len (by decide +kernel) (da_cons (de_var (i := 0)) da_nil)) (nomark _)) (de_ix (de_var (i := 0)) (de_var (i := 1))) de_int))
      (dss_cons (ds_set (i := 3) sc_l_bag.nd (de_bin od_add (de_bin od_mul de_int (de_var (i := 1))) de_int))
      (dss_cons (ds_for (di_enum (de_slice (de_var (i := 0)) db_none (db_some de_int)) (by rfl) B.b_enumerate) (dg_tup (by rfl) (dgs_cons (dg_name sc_l_bag.nd (i := 4)) (dgs_cons (dg_name sc_l_bag.nd (i := 5)) dgs_nil)))
      (dss_one (ds_set (i := 3) sc_l_bag.nd (de_bin od_mod (de_callTy cd_int (by rfl) B.b_int (by decide +kernel) (da_cons (de_bin od_add (de_bin od_add (de_bin od_add (de_bin od_mul (de_var (i := 3)) de_int) (de_bin od_mod (de_callTy cd_int (by rfl) B.b_int (by decide +kernel) (da_cons (de_var (i := 5)) da_nil)) de_int)) (de_bin od_mul de_int (de_var (i := 4)))) de_int) da_nil)) de_int))) PassesOwn.never)
      (dss_one (ds_retF (df_lst (da_cons (de_ifExp (dt_cmp od_ge (de_callB cd_abs (by rfl) B.b_abs (by decide +kernel) (da_cons (de_var (i := 2)) da_nil)) (de_bin od_pow de_int de_int) (nomark _)) (de_callB cd_abs (by rfl) B.b_abs (by decide +kernel) (da_cons (de_var (i := 2)) da_nil)) de_int) (da_cons (de_var (i := 3)) da_nil))))))))
      rfl h
end
/-! _law_terms -/
abbrev s_l_terms : Stmt := topS 90
abbrev sc_l_terms_N : List Str := ["_law_kind"]
theorem sc_l_terms : FnScope sc_l_terms_N ["_law_kind"] (defScope s_l_terms) := ⟨rfl, rfl, rfl, by decide +kernel, rfl, by decide +kernel, by decide +kernel⟩
def t_l_terms_1 : SX :=
    (sIf (bBl (eOp (op2 eqD) [(.ex (eVar 0)), (.ex (eC (.str "moments")))]))
    (sRetF (fLst [(.ex (eC (.str "some"))), (.ex (eC (.str "none"))), (.ex (eC (.str "all"))), (.ex (eC (.str "one"))), (.ex (eC (.str "two"))), (.ex (eC (.str "each"))), (.ex (eC (.str "inside")))]))
    sNil)
def t_l_terms_2 : SX :=
    (sRetF (fIfL (bBl (eOp (op2 eqD) [(.ex (eVar 0)), (.ex (eC (.str "answer")))])) (fLst [(.ex (eC (.str "busy"))), (.ex (eC (.str "covered"))), (.ex (eC (.str "clash")))]) (fLst [(.ex (eC (.str "all"))), (.ex (eC (.str "full"))), (.ex (eC (.str "left"))), (.ex (eC (.str "within"))), (.ex (eC (.str "touched"))), (.ex (eC (.str "pieces")))])))
def sem_l_terms : SX :=
    (sSeq t_l_terms_1
    t_l_terms_2)
def fn_l_terms : List Cell → Rs (List D) := fnN (fnBF 1 sem_l_terms)
section
variable {P : Program} {w : World} {K : PySem.W.Frag} {mg : Str → Option Value} {bh : Heap}
theorem ok_l_terms {f : Addr} {fd : FuncData} {cm : Str → Addr} (B : Blt mg) (T : Txt K mg) (KI : Kits K mg cm) (F : Fun K "_law_terms" "_law_terms" s_l_terms f fd) : FnOk P w K mg bh CX0 1 f fd ["_law_kind"] (spF (Gx.mk K cm none TT) 1 fn_l_terms) := by
  refine F.ok sc_l_terms (spQ_len rfl) (fun cdv A outer s H vs Q E hr h => ?_)
  exact body_ofNF (G := (Gx.mk K cm none TT))
      (dss_cons (ds_if (dt_cmp (od_eq hr.units) (de_var (i := 0)) (de_str (by decide +kernel)) (nomark _))
      (dss_one (ds_retF (df_lst (da_cons (de_str (by decide +kernel)) (da_cons (de_str (by decide +kernel)) (da_cons (de_str (by decide +kernel)) (da_cons (de_str (by decide +kernel)) (da_cons (de_str (by decide +kernel)) (da_cons (de_str (by decide +kernel)) (da_cons (de_str (by decide +kernel)) da_nil))))))))))
      dss_nil)
      (dss_one (ds_retF (df_ifExp (dt_cmp (od_eq hr.units) (de_var (i := 0)) (de_str (by decide +kernel)) (nomark _)) (df_lst (da_cons (de_str (by decide +kernel)) (da_cons (de_str (by decide +kernel)) (da_cons (de_str (by decide +kernel)) da_nil)))) (df_lst (da_cons (de_str (by decide +kernel)) (da_cons (de_str (by decide +kernel)) (da_cons (de_str (by decide +kernel)) (da_cons (de_str (by decide +kernel)) (da_cons (de_str (by decide +kernel)) (da_cons (de_str (by decide +kernel)) da_nil)))))))))))
      rfl h
end
/-! check_order -/
abbrev s_check_order : Stmt := topS 38
abbrev sc_check_order_N : List Str := ["order"]
theorem sc_check_order : FnScope sc_check_order_N ["order"] (defScope s_check_order) := ⟨rfl, rfl, rfl, by decide +kernel, rfl, by decide +kernel, by decide +kernel⟩
def t_check_order_1 : SX :=
    (sIf (bAnd (bBl (eOp (op2 notInD) [(.ex (eVar 0)), (.ex (eC (.tup [(.str "any"), (.str "begin"), (.str "begin end"), (.str "begin back"), (.str "end"), (.str "end begin"), (.str "end back")])))])) (bBl (eOp (op2 notInD) [(.ex (eVar 0)), (.ex (eC (.tup [(.str "at"), (.str "at in"), (.str "at out")])))])))
    (sRaiseB "BadOrder" "order" (eVar 0))
    sNil)
def sem_check_order : SX :=
    t_check_order_1
def fn_check_order : List Cell → Rs D := (fnB 1 sem_check_order)
section
variable {P : Program} {w : World} {K : PySem.W.Frag} {mg : Str → Option Value} {bh : Heap}
theorem ok_check_order {f : Addr} {fd : FuncData} {cm : Str → Addr} {fI_BadOrder : Addr} {fdE_BadOrder : FuncData} (B : Blt mg) (T : Txt K mg) (KI : Kits K mg cm) (E_BadOrder : ErrB P w K mg bh "BadOrder" "order" (cm "BadOrder") fI_BadOrder fdE_BadOrder) (F : Fun K "check_order" "check_order" s_check_order f fd) : FnOk P w K mg bh (L2.CX P w) 3 f fd ["order"] (spD (Gx.mk K cm none TT) 1 fn_check_order) := by
  refine F.okX sc_check_order (spQ_len rfl) (fun cdv A outer s H vs Q E hr h => ?_)
  exact body_of (G := (Gx.mk K cm none TT)) (W := fun c d _ H => E c d H)
      (dss_one (ds_if (DW.pt (dw_and (dt_cmp (od_notIn (un65 hr)) (de_var (i := 0)) (de_glT KI.gt_STRETCH_ORDERS (by rfl)) (by rfl)) (dw_and1 (dt_cmp (od_notIn (un65 hr)) (de_var (i := 0)) (de_glT KI.gt_EVENT_ORDERS (by rfl)) (by rfl)))))
      (dss_one (ds_raiseB (c := "BadOrder") rfl E_BadOrder hr (by decide) (takes_of rfl rfl rfl rfl) (by rfl) (de_var (i := 0))))
      dss_nil))
      rfl (fun _ _ _ _ z => z) h
end
/-! check_rules -/
abbrev s_check_rules : Stmt := topS 78
abbrev sc_check_rules_N : List Str := ["part", "rules", "order", "rule", "number"]
theorem sc_check_rules : FnScope sc_check_rules_N ["part", "rules", "order"] (defScope s_check_rules) := ⟨rfl, rfl, rfl, by decide +kernel, rfl, by decide +kernel, by decide +kernel⟩
def t_check_rules_1 : SX :=
    sBad
def b_check_rules_1 : SX :=
    t_check_rules_1
def t_check_rules_2 : SX :=
    (sFor (fSeq (eVar 1)) (gSet 3)
    b_check_rules_1)
def t_check_rules_3 : SX :=
    (sIf (bBl (eOp (op2 gtD) [(.ex (eOp (op1 lenD) [(.ex (eVar 1))])), (.ex (eC (.int 6)))]))
    (sRaiseB "TooMany" "limit" (eC (.int 6)))
    sNil)
def t_check_rules_4 : SX :=
    sBad
def b_check_rules_2 : SX :=
    t_check_rules_4
def t_check_rules_5 : SX :=
    (sFor (fEnS (eVar 1) (eC (.int 1))) (gTupD 2 (gsCons (gSet 4) (gsCons (gSet 3) gsNil)))
    b_check_rules_2)
def sem_check_rules : SX :=
    (sSeq t_check_rules_2
    (sSeq t_check_rules_3
    t_check_rules_5))
def fn_check_rules : List Cell → Rs D := (fnB 5 sem_check_rules)
section
variable {P : Program} {w : World} {K : PySem.W.Frag} {mg : Str → Option Value} {bh : Heap}
theorem ok_check_rules {f : Addr} {fd : FuncData} {cm : Str → Addr} {fI_TooMany : Addr} {fdE_TooMany : FuncData} (B : Blt mg) (T : Txt K mg) (KI : Kits K mg cm) (E_TooMany : ErrB P w K mg bh "TooMany" "limit" (cm "TooMany") fI_TooMany fdE_TooMany) (F : Fun K "check_rules" "check_rules" s_check_rules f fd) : FnOk P w K mg bh (L2.CX P w) 3 f fd ["part", "rules", "order"] (spD (Gx.mk K cm none TT) 3 fn_check_rules) := by
  refine F.okX sc_check_rules (spQ_len rfl) (fun cdv A outer s H vs Q E hr h => ?_)
  exact body_of (G := (Gx.mk K cm none TT)) (W := fun c d _ H => E c d H)
      (dss_cons (ds_for (di_seq (de_var (i := 1))) (dg_name sc_check_rules.nd (i := 3))
      (dss_one ds_never) (passes_of rfl))
      (dss_cons (ds_if (dt_cmp od_gt (de_callB cd_len (by rfl) B.b_len (by decide +kernel) (da_cons (de_var (i := 1)) da_nil)) de_int (nomark _))
      (dss_one (ds_raiseB (c := "TooMany") rfl E_TooMany hr (by decide) (takes_of rfl rfl rfl rfl) (by rfl) de_int))
      dss_nil)
      (dss_one (ds_for (di_enS (de_var (i := 1)) de_int (by rfl) B.b_enumerate) (dg_tup (by rfl) (dgs_cons (dg_name sc_check_rules.nd (i := 4)) (dgs_cons (dg_name sc_check_rules.nd (i := 3)) dgs_nil)))
      (dss_one ds_never) (passes_of rfl)))))
      rfl (fun _ _ _ _ z => z) h
end
/-! Loop.__init__ -/
abbrev s_Loop_init : Stmt := inClass (topS 80) 0
abbrev sc_Loop_init_N : List Str := ["self", "order", "ahead", "each", "behind", "rules"]
theorem sc_Loop_init : FnScope sc_Loop_init_N ["self", "order", "ahead", "each", "behind"] (defScope s_Loop_init) := ⟨rfl, rfl, rfl, by decide +kernel, rfl, by decide +kernel, by decide +kernel⟩
def t_Loop_init_1 : SX :=
    (sExpr (eCallX 1 fn_check_order [] [(.ex (eVar 1))]))
def t_Loop_init_2 : SX :=
    (sExpr (eCallX 3 fn_check_rules [] [(.ex (eC (.str "ahead"))), (.ex (eVar 2)), (.ex (eVar 1))]))
def t_Loop_init_3 : SX :=
    (sExpr (eCallX 3 fn_check_rules [] [(.ex (eC (.str "each"))), (.ex (eVar 3)), (.ex (eVar 1))]))
def t_Loop_init_4 : SX :=
    (sExpr (eCallX 3 fn_check_rules [] [(.ex (eC (.str "behind"))), (.ex (eVar 4)), (.ex (eVar 1))]))
def t_Loop_init_5 : SX :=
    (sFldS "Loop" "order" 0 (eVar 1))
def t_Loop_init_6 : SX :=
    (sFldS "Loop" "ahead" 0 (eOp (op1 tupD) [(.ex (eVar 2))]))
def t_Loop_init_7 : SX :=
    (sFldS "Loop" "each" 0 (eOp (op1 tupD) [(.ex (eVar 3))]))
def t_Loop_init_8 : SX :=
    (sFldS "Loop" "behind" 0 (eOp (op1 tupD) [(.ex (eVar 4))]))
def t_Loop_init_9 : SX :=
    (sSet 5 (eOp (op2 addD) [(.ex (eOp (op2 addD) [(.ex (eSFld "Loop" "ahead" 0)), (.ex (eSFld "Loop" "each" 0))])), (.ex (eSFld "Loop" "behind" 0))]))
def t_Loop_init_10 : SX :=
    (sFldS "Loop" "known" 0 (eOp (op1 tupD) [(.ex (eSortSC0 (fSeq (eVar 5))))]))
def sem_Loop_init : SX :=
    (sSeq t_Loop_init_1
    (sSeq t_Loop_init_2
    (sSeq t_Loop_init_3
    (sSeq t_Loop_init_4
    (sSeq t_Loop_init_5
    (sSeq t_Loop_init_6
    (sSeq t_Loop_init_7
    (sSeq t_Loop_init_8
    (sSeq t_Loop_init_9
    t_Loop_init_10)))))))))
def fn_Loop_init : List Cell → Rs D := (fnB 6 sem_Loop_init)
section
variable {P : Program} {w : World} {K : PySem.W.Frag} {mg : Str → Option Value} {bh : Heap}
theorem ok_Loop_init {f : Addr} {fd : FuncData} {cm : Str → Addr} {f_check_order : Addr} {fd_check_order : FuncData} {f_check_rules : Addr} {fd_check_rules : FuncData} (B : Blt mg) (T : Txt K mg) (KI : Kits K mg cm) (R_check_order : RdyX P w K mg bh "check_order" 3 ["order"] (spD (Gx.mk K cm none TT) 1 fn_check_order) f_check_order fd_check_order) (R_check_rules : RdyX P w K mg bh "check_rules" 3 ["part", "rules", "order"] (spD (Gx.mk K cm none TT) 3 fn_check_rules) f_check_rules fd_check_rules) (F : FunD K "__init__" "Loop.__init__" (defArgs s_Loop_init) (defBody s_Loop_init) (defScope s_Loop_init) [] [(("ahead" : Str), (.ref (cm "()Loop.__init__.ahead"))), (("each" : Str), (.ref (cm "()Loop.__init__.each"))), (("behind" : Str), (.ref (cm "()Loop.__init__.behind")))] f fd) : FnOk P w K mg bh (L2.CX P w) 4 f fd ["self", "order", "ahead", "each", "behind"] (spD (Gx.mk K cm none TT) 5 fn_Loop_init) := by
  refine F.ok sc_Loop_init (spQ_len rfl) (fun cdv A outer s H vs Q E hr h => ?_)
  exact body_of (G := (Gx.mk K cm none TT)) (W := fun c d _ H => E c d H)
      (dss_cons (ds_expr (de_callXS R_check_order hr (by decide) (by rfl) (takes_of rfl rfl rfl rfl) (da_cons (de_var (i := 1)) da_nil)))
      (dss_cons (ds_expr (de_callXS R_check_rules hr (by decide) (by rfl) (takes_of rfl rfl rfl rfl) (da_cons (de_str (by decide +kernel)) (da_cons (de_var (i := 2)) (da_cons (de_var (i := 1)) da_nil)))))
      (dss_cons (ds_expr (de_callXS R_check_rules hr (by decide) (by rfl) (takes_of rfl rfl rfl rfl) (da_cons (de_str (by decide +kernel)) (da_cons (de_var (i := 3)) (da_cons (de_var (i := 1)) da_nil)))))
      (dss_cons (ds_expr (de_callXS R_check_rules hr (by decide) (by rfl) (takes_of rfl rfl rfl rfl) (da_cons (de_str (by decide +kernel)) (da_cons (de_var (i := 4)) (da_cons (de_var (i := 1)) da_nil)))))
      (dss_cons (ds_fld (C := "Loop") (i := 0) (de_var (i := 1)) KI.fo_Loop_order)
      (dss_cons (ds_fld (C := "Loop") (i := 0) (de_callTy cd_tup (by rfl) B.b_tuple (by decide +kernel) (da_cons (de_var (i := 2)) da_nil)) KI.fo_Loop_ahead)
      (dss_cons (ds_fld (C := "Loop") (i := 0) (de_callTy cd_tup (by rfl) B.b_tuple (by decide +kernel) (da_cons (de_var (i := 3)) da_nil)) KI.fo_Loop_each)
      (dss_cons (ds_fld (C := "Loop") (i := 0) (de_callTy cd_tup (by rfl) B.b_tuple (by decide +kernel) (da_cons (de_var (i := 4)) da_nil)) KI.fo_Loop_behind)
      (dss_cons (ds_set (i := 5) sc_Loop_init.nd (de_bin od_add (de_bin od_add (de_sfld (C := "Loop") (i := 0) KI.fo_Loop_ahead) (de_sfld (C := "Loop") (i := 0) KI.fo_Loop_each)) (de_sfld (C := "Loop") (i := 0) KI.fo_Loop_behind)))
      (dss_one (ds_fld (C := "Loop") (i := 0) (de_callTy cd_tup (by rfl) B.b_tuple (by decide +kernel) (da_cons (de_sortSC0 (own := []) (di_seq (de_var (i := 5))) (blkOk_by (own := []) (N := sc_Loop_init_N) (sc := defScope s_Loop_init) (by decide +kernel)) sc_Loop_init.nd (by rfl) B.b_sorted) da_nil)) KI.fo_Loop_known)))))))))))
      rfl (fun _ _ _ _ z => z) h
end
/-! check_word -/
abbrev s_check_word : Stmt := topS 58
abbrev sc_check_word_N : List Str := ["word", "words"]
theorem sc_check_word : FnScope sc_check_word_N ["word", "words"] (defScope s_check_word) := ⟨rfl, rfl, rfl, by decide +kernel, rfl, by decide +kernel, by decide +kernel⟩
def t_check_word_1 : SX :=
    (sIf (bBl (eOp (op2 notInD) [(.ex (eVar 0)), (.ex (eVar 1))]))
    (sRaiseB "BadWish" "word" (eVar 0))
    sNil)
def sem_check_word : SX :=
    t_check_word_1
def fn_check_word : List Cell → Rs D := (fnB 2 sem_check_word)
section
variable {P : Program} {w : World} {K : PySem.W.Frag} {mg : Str → Option Value} {bh : Heap}
theorem ok_check_word {f : Addr} {fd : FuncData} {cm : Str → Addr} {fI_BadWish : Addr} {fdE_BadWish : FuncData} (B : Blt mg) (T : Txt K mg) (KI : Kits K mg cm) (E_BadWish : ErrB P w K mg bh "BadWish" "word" (cm "BadWish") fI_BadWish fdE_BadWish) (F : Fun K "check_word" "check_word" s_check_word f fd) : FnOk P w K mg bh (L2.CX P w) 3 f fd ["word", "words"] (spD (Gx.mk K cm none TT) 2 fn_check_word) := by
  refine F.okX sc_check_word (spQ_len rfl) (fun cdv A outer s H vs Q E hr h => ?_)
  exact body_of (G := (Gx.mk K cm none TT)) (W := fun c d _ H => E c d H)
      (dss_one (ds_if (dt_cmp (od_notIn (un65 hr)) (de_var (i := 0)) (de_var (i := 1)) (by rfl))
      (dss_one (ds_raiseB (c := "BadWish") rfl E_BadWish hr (by decide) (takes_of rfl rfl rfl rfl) (by rfl) (de_var (i := 0))))
      dss_nil))
      rfl (fun _ _ _ _ z => z) h
end
/-! check_ends -/
abbrev s_check_ends : Stmt := topS 23
abbrev sc_check_ends_N : List Str := ["ends"]
theorem sc_check_ends : FnScope sc_check_ends_N ["ends"] (defScope s_check_ends) := ⟨rfl, rfl, rfl, by decide +kernel, rfl, by decide +kernel, by decide +kernel⟩
def t_check_ends_1 : SX :=
    (sIf (bBl (eOp (op2 notInD) [(.ex (eVar 0)), (.ex (eTup [(.ex (eC (.str "half"))), (.ex (eC (.str "shut")))]))]))
    (sRaiseB "BadEnds" "ends" (eVar 0))
    sNil)
def sem_check_ends : SX :=
    t_check_ends_1
def fn_check_ends : List Cell → Rs D := (fnB 1 sem_check_ends)
section
variable {P : Program} {w : World} {K : PySem.W.Frag} {mg : Str → Option Value} {bh : Heap}
theorem ok_check_ends {f : Addr} {fd : FuncData} {cm : Str → Addr} {fI_BadEnds : Addr} {fdE_BadEnds : FuncData} (B : Blt mg) (T : Txt K mg) (KI : Kits K mg cm) (E_BadEnds : ErrB P w K mg bh "BadEnds" "ends" (cm "BadEnds") fI_BadEnds fdE_BadEnds) (F : Fun K "check_ends" "check_ends" s_check_ends f fd) : FnOk P w K mg bh (L2.CX P w) 3 f fd ["ends"] (spD (Gx.mk K cm none TT) 1 fn_check_ends) := by
  refine F.okX sc_check_ends (spQ_len rfl) (fun cdv A outer s H vs Q E hr h => ?_)
  exact body_of (G := (Gx.mk K cm none TT)) (W := fun c d _ H => E c d H)
      (dss_one (ds_if (dt_cmp (od_notIn (un65 hr)) (de_var (i := 0)) (de_tup (da_cons (de_half T.ends (by rfl)) (da_cons (de_shut T.ends (by rfl)) da_nil))) (by rfl))
      (dss_one (ds_raiseB (c := "BadEnds") rfl E_BadEnds hr (by decide) (takes_of rfl rfl rfl rfl) (by rfl) (de_var (i := 0))))
      dss_nil))
      rfl (fun _ _ _ _ z => z) h
end
/-! Moments.__init__ -/
abbrev s_Moments_init : Stmt := inClass (topS 60) 0
abbrev sc_Moments_init_N : List Str := ["self", "which", "within", "form", "ends"]
theorem sc_Moments_init : FnScope sc_Moments_init_N ["self", "which", "within", "form", "ends"] (defScope s_Moments_init) := ⟨rfl, rfl, rfl, by decide +kernel, rfl, by decide +kernel, by decide +kernel⟩
def t_Moments_init_1 : SX :=
    (sExpr (eCallX 2 fn_check_word [] [(.ex (eVar 1)), (.ex (eC (.tup [(.str "some"), (.str "none"), (.str "all"), (.str "one"), (.str "two"), (.str "each"), (.str "inside")])))]))
def t_Moments_init_2 : SX :=
    (sExpr (eCallX 2 fn_check_word [] [(.ex (eVar 3)), (.ex (eC (.tup [(.str "any"), (.str "full"), (.str "one"), (.str "cut")])))]))
def t_Moments_init_3 : SX :=
    (sExpr (eCallX 1 fn_check_ends [] [(.ex (eVar 4))]))
def t_Moments_init_4 : SX :=
    (sFldS "Moments" "which" 0 (eVar 1))
def t_Moments_init_5 : SX :=
    (sFldS "Moments" "within" 0 (eVar 2))
def t_Moments_init_6 : SX :=
    (sFldS "Moments" "form" 0 (eVar 3))
def t_Moments_init_7 : SX :=
    (sFldS "Moments" "ends" 0 (eVar 4))
def sem_Moments_init : SX :=
    (sSeq t_Moments_init_1
    (sSeq t_Moments_init_2
    (sSeq t_Moments_init_3
    (sSeq t_Moments_init_4
    (sSeq t_Moments_init_5
    (sSeq t_Moments_init_6
    t_Moments_init_7))))))
def fn_Moments_init : List Cell → Rs D := (fnB 5 sem_Moments_init)
section
variable {P : Program} {w : World} {K : PySem.W.Frag} {mg : Str → Option Value} {bh : Heap}
theorem ok_Moments_init {f : Addr} {fd : FuncData} {cm : Str → Addr} {f_check_word : Addr} {fd_check_word : FuncData} {f_check_ends : Addr} {fd_check_ends : FuncData} (B : Blt mg) (T : Txt K mg) (KI : Kits K mg cm) (R_check_word : RdyX P w K mg bh "check_word" 3 ["word", "words"] (spD (Gx.mk K cm none TT) 2 fn_check_word) f_check_word fd_check_word) (R_check_ends : RdyX P w K mg bh "check_ends" 3 ["ends"] (spD (Gx.mk K cm none TT) 1 fn_check_ends) f_check_ends fd_check_ends) (F : FunD K "__init__" "Moments.__init__" (defArgs s_Moments_init) (defBody s_Moments_init) (defScope s_Moments_init) [] [(("within" : Str), (.bl false)), (("form" : Str), (.str "one")), (("ends" : Str), (.str "half"))] f fd) : FnOk P w K mg bh (L2.CX P w) 4 f fd ["self", "which", "within", "form", "ends"] (spD (Gx.mk K cm none TT) 5 fn_Moments_init) := by
  refine F.ok sc_Moments_init (spQ_len rfl) (fun cdv A outer s H vs Q E hr h => ?_)
  exact body_of (G := (Gx.mk K cm none TT)) (W := fun c d _ H => E c d H)
      (dss_cons (ds_expr (de_callXS R_check_word hr (by decide) (by rfl) (takes_of rfl rfl rfl rfl) (da_cons (de_var (i := 1)) (da_cons (de_glT KI.gt_TIMES (by rfl)) da_nil))))
      (dss_cons (ds_expr (de_callXS R_check_word hr (by decide) (by rfl) (takes_of rfl rfl rfl rfl) (da_cons (de_var (i := 3)) (da_cons (de_glT KI.gt_FORMS (by rfl)) da_nil))))
      (dss_cons (ds_expr (de_callXS R_check_ends hr (by decide) (by rfl) (takes_of rfl rfl rfl rfl) (da_cons (de_var (i := 4)) da_nil)))
      (dss_cons (ds_fld (C := "Moments") (i := 0) (de_var (i := 1)) KI.fo_Moments_which)
      (dss_cons (ds_fld (C := "Moments") (i := 0) (de_var (i := 2)) KI.fo_Moments_within)
      (dss_cons (ds_fld (C := "Moments") (i := 0) (de_var (i := 3)) KI.fo_Moments_form)
      (dss_one (ds_fld (C := "Moments") (i := 0) (de_var (i := 4)) KI.fo_Moments_ends))))))))
      rfl (fun _ _ _ _ z => z) h
end
/-! Moments.by -/
abbrev s_Moments_by : Stmt := inClass (topS 60) 3
abbrev sc_Moments_by_N : List Str := ["self", "ends"]
theorem sc_Moments_by : FnScope sc_Moments_by_N ["self", "ends"] (defScope s_Moments_by) := ⟨rfl, rfl, rfl, by decide +kernel, rfl, by decide +kernel, by decide +kernel⟩
def t_Moments_by_1 : SX :=
    (sRet (eMkKX 5 fn_Moments_init "Moments" 1 3 (fun as bs => as ++ bs) [(.ex (eFld ["Moments"] "which" (eVar 0)))] [(.ex (eFld ["Moments"] "within" (eVar 0))), (.ex (eFld ["Moments"] "form" (eVar 0))), (.ex (eVar 1))]))
def sem_Moments_by : SX :=
    t_Moments_by_1
def fn_Moments_by : List Cell → Rs D := (fnB 2 sem_Moments_by)
section
variable {P : Program} {w : World} {K : PySem.W.Frag} {mg : Str → Option Value} {bh : Heap}
theorem ok_Moments_by {f : Addr} {fd : FuncData} {cm : Str → Addr} {f_Moments_init : Addr} {fd_Moments_init : FuncData} (B : Blt mg) (T : Txt K mg) (KI : Kits K mg cm) (R_Moments_init : RdyMkX P w K mg bh "Moments" (cm "Moments") 4 ["self", "which", "within", "form", "ends"] (spD (Gx.mk K cm none TT) 5 fn_Moments_init) f_Moments_init fd_Moments_init) (W_Moments_init_1_within_form_ends : FillK K fd_Moments_init ["self", "which", "within", "form", "ends"] 2 ["within", "form", "ends"] (fun vs zs => vs ++ zs)) (F : FunD K "by" "Moments.by" (defArgs s_Moments_by) (defBody s_Moments_by) (defScope s_Moments_by) [] [] f fd) : FnOk P w K mg bh (L2.CX P w) 6 f fd ["self", "ends"] (spD (Gx.mk K cm none TT) 2 fn_Moments_by) := by
  refine F.ok sc_Moments_by (spQ_len rfl) (fun cdv A outer s H vs Q E hr h => ?_)
  exact body_of (G := (Gx.mk K cm none TT)) (W := fun c d _ H => E c d H)
      (dss_one (ds_ret (de_mkKX R_Moments_init W_Moments_init_1_within_form_ends arr_app hr (by decide) (by rfl) (takes_of rfl rfl rfl rfl) (da_cons (de_fld (Cs := ["Moments"]) (de_var (i := 0)) KI.fo_Moments_which) da_nil) (dk_cons (de_fld (Cs := ["Moments"]) (de_var (i := 0)) KI.fo_Moments_within) (dk_cons (de_fld (Cs := ["Moments"]) (de_var (i := 0)) KI.fo_Moments_form) (dk_cons (de_var (i := 1)) dk_nil))))))
      rfl (fun _ _ _ _ z => z) h
end
/-! Answer.__init__ -/
abbrev s_Answer_init : Stmt := inClass (topS 61) 0
abbrev sc_Answer_init_N : List Str := ["self", "what", "ends"]
theorem sc_Answer_init : FnScope sc_Answer_init_N ["self", "what", "ends"] (defScope s_Answer_init) := ⟨rfl, rfl, rfl, by decide +kernel, rfl, by decide +kernel, by decide +kernel⟩
def t_Answer_init_1 : SX :=
    (sExpr (eCallX 2 fn_check_word [] [(.ex (eVar 1)), (.ex (eC (.tup [(.str "busy"), (.str "covered"), (.str "clash")])))]))
def t_Answer_init_2 : SX :=
    (sExpr (eCallX 1 fn_check_ends [] [(.ex (eVar 2))]))
def t_Answer_init_3 : SX :=
    (sFldS "Answer" "what" 0 (eVar 1))
def t_Answer_init_4 : SX :=
    (sFldS "Answer" "ends" 0 (eVar 2))
def sem_Answer_init : SX :=
    (sSeq t_Answer_init_1
    (sSeq t_Answer_init_2
    (sSeq t_Answer_init_3
    t_Answer_init_4)))
def fn_Answer_init : List Cell → Rs D := (fnB 3 sem_Answer_init)
section
variable {P : Program} {w : World} {K : PySem.W.Frag} {mg : Str → Option Value} {bh : Heap}
theorem ok_Answer_init {f : Addr} {fd : FuncData} {cm : Str → Addr} {f_check_word : Addr} {fd_check_word : FuncData} {f_check_ends : Addr} {fd_check_ends : FuncData} (B : Blt mg) (T : Txt K mg) (KI : Kits K mg cm) (R_check_word : RdyX P w K mg bh "check_word" 3 ["word", "words"] (spD (Gx.mk K cm none TT) 2 fn_check_word) f_check_word fd_check_word) (R_check_ends : RdyX P w K mg bh "check_ends" 3 ["ends"] (spD (Gx.mk K cm none TT) 1 fn_check_ends) f_check_ends fd_check_ends) (F : FunD K "__init__" "Answer.__init__" (defArgs s_Answer_init) (defBody s_Answer_init) (defScope s_Answer_init) [] [(("ends" : Str), (.str "half"))] f fd) : FnOk P w K mg bh (L2.CX P w) 4 f fd ["self", "what", "ends"] (spD (Gx.mk K cm none TT) 3 fn_Answer_init) := by
  refine F.ok sc_Answer_init (spQ_len rfl) (fun cdv A outer s H vs Q E hr h => ?_)
  exact body_of (G := (Gx.mk K cm none TT)) (W := fun c d _ H => E c d H)
      (dss_cons (ds_expr (de_callXS R_check_word hr (by decide) (by rfl) (takes_of rfl rfl rfl rfl) (da_cons (de_var (i := 1)) (da_cons (de_glT KI.gt_ANSWERS (by rfl)) da_nil))))
      (dss_cons (ds_expr (de_callXS R_check_ends hr (by decide) (by rfl) (takes_of rfl rfl rfl rfl) (da_cons (de_var (i := 2)) da_nil)))
      (dss_cons (ds_fld (C := "Answer") (i := 0) (de_var (i := 1)) KI.fo_Answer_what)
      (dss_one (ds_fld (C := "Answer") (i := 0) (de_var (i := 2)) KI.fo_Answer_ends)))))
      rfl (fun _ _ _ _ z => z) h
end
/-! Answer.by -/
abbrev s_Answer_by : Stmt := inClass (topS 61) 3
abbrev sc_Answer_by_N : List Str := ["self", "ends"]
theorem sc_Answer_by : FnScope sc_Answer_by_N ["self", "ends"] (defScope s_Answer_by) := ⟨rfl, rfl, rfl, by decide +kernel, rfl, by decide +kernel, by decide +kernel⟩
def t_Answer_by_1 : SX :=
    (sRet (eMkKX 3 fn_Answer_init "Answer" 1 1 (fun as bs => as ++ bs) [(.ex (eFld ["Answer", "Number"] "what" (eVar 0)))] [(.ex (eVar 1))]))
def sem_Answer_by : SX :=
    t_Answer_by_1
def fn_Answer_by : List Cell → Rs D := (fnB 2 sem_Answer_by)
section
variable {P : Program} {w : World} {K : PySem.W.Frag} {mg : Str → Option Value} {bh : Heap}
theorem ok_Answer_by {f : Addr} {fd : FuncData} {cm : Str → Addr} {f_Answer_init : Addr} {fd_Answer_init : FuncData} (B : Blt mg) (T : Txt K mg) (KI : Kits K mg cm) (R_Answer_init : RdyMkX P w K mg bh "Answer" (cm "Answer") 4 ["self", "what", "ends"] (spD (Gx.mk K cm none TT) 3 fn_Answer_init) f_Answer_init fd_Answer_init) (W_Answer_init_1_ends : FillK K fd_Answer_init ["self", "what", "ends"] 2 ["ends"] (fun vs zs => vs ++ zs)) (F : FunD K "by" "Answer.by" (defArgs s_Answer_by) (defBody s_Answer_by) (defScope s_Answer_by) [] [] f fd) : FnOk P w K mg bh (L2.CX P w) 6 f fd ["self", "ends"] (spD (Gx.mk K cm none TT) 2 fn_Answer_by) := by
  refine F.ok sc_Answer_by (spQ_len rfl) (fun cdv A outer s H vs Q E hr h => ?_)
  exact body_of (G := (Gx.mk K cm none TT)) (W := fun c d _ H => E c d H)
      (dss_one (ds_ret (de_mkKX R_Answer_init W_Answer_init_1_ends arr_app hr (by decide) (by rfl) (takes_of rfl rfl rfl rfl) (da_cons (de_fld (Cs := ["Answer", "Number"]) (de_var (i := 0)) KI.fo_Answer_Number_what) da_nil) (dk_cons (de_var (i := 1)) dk_nil))))
      rfl (fun _ _ _ _ z => z) h
end
/-! Number.__init__ -/
abbrev s_Number_init : Stmt := inClass (topS 62) 0
abbrev sc_Number_init_N : List Str := ["self", "what", "ends"]
theorem sc_Number_init : FnScope sc_Number_init_N ["self", "what", "ends"] (defScope s_Number_init) := ⟨rfl, rfl, rfl, by decide +kernel, rfl, by decide +kernel, by decide +kernel⟩
def t_Number_init_1 : SX :=
    (sExpr (eCallX 2 fn_check_word [] [(.ex (eVar 1)), (.ex (eC (.tup [(.str "all"), (.str "full"), (.str "left"), (.str "within"), (.str "touched"), (.str "pieces")])))]))
def t_Number_init_2 : SX :=
    (sExpr (eCallX 1 fn_check_ends [] [(.ex (eVar 2))]))
def t_Number_init_3 : SX :=
    (sFldS "Number" "what" 0 (eVar 1))
def t_Number_init_4 : SX :=
    (sFldS "Number" "ends" 0 (eVar 2))
def sem_Number_init : SX :=
    (sSeq t_Number_init_1
    (sSeq t_Number_init_2
    (sSeq t_Number_init_3
    t_Number_init_4)))
def fn_Number_init : List Cell → Rs D := (fnB 3 sem_Number_init)
section
variable {P : Program} {w : World} {K : PySem.W.Frag} {mg : Str → Option Value} {bh : Heap}
theorem ok_Number_init {f : Addr} {fd : FuncData} {cm : Str → Addr} {f_check_word : Addr} {fd_check_word : FuncData} {f_check_ends : Addr} {fd_check_ends : FuncData} (B : Blt mg) (T : Txt K mg) (KI : Kits K mg cm) (R_check_word : RdyX P w K mg bh "check_word" 3 ["word", "words"] (spD (Gx.mk K cm none TT) 2 fn_check_word) f_check_word fd_check_word) (R_check_ends : RdyX P w K mg bh "check_ends" 3 ["ends"] (spD (Gx.mk K cm none TT) 1 fn_check_ends) f_check_ends fd_check_ends) (F : FunD K "__init__" "Number.__init__" (defArgs s_Number_init) (defBody s_Number_init) (defScope s_Number_init) [] [(("ends" : Str), (.str "half"))] f fd) : FnOk P w K mg bh (L2.CX P w) 4 f fd ["self", "what", "ends"] (spD (Gx.mk K cm none TT) 3 fn_Number_init) := by
  refine F.ok sc_Number_init (spQ_len rfl) (fun cdv A outer s H vs Q E hr h => ?_)
  exact body_of (G := (Gx.mk K cm none TT)) (W := fun c d _ H => E c d H)
      (dss_cons (ds_expr (de_callXS R_check_word hr (by decide) (by rfl) (takes_of rfl rfl rfl rfl) (da_cons (de_var (i := 1)) (da_cons (de_glT KI.gt_NUMBERS (by rfl)) da_nil))))
      (dss_cons (ds_expr (de_callXS R_check_ends hr (by decide) (by rfl) (takes_of rfl rfl rfl rfl) (da_cons (de_var (i := 2)) da_nil)))
      (dss_cons (ds_fld (C := "Number") (i := 0) (de_var (i := 1)) KI.fo_Number_what)
      (dss_one (ds_fld (C := "Number") (i := 0) (de_var (i := 2)) KI.fo_Number_ends)))))
      rfl (fun _ _ _ _ z => z) h
end
/-! Number.by -/
abbrev s_Number_by : Stmt := inClass (topS 62) 3
abbrev sc_Number_by_N : List Str := ["self", "ends"]
theorem sc_Number_by : FnScope sc_Number_by_N ["self", "ends"] (defScope s_Number_by) := ⟨rfl, rfl, rfl, by decide +kernel, rfl, by decide +kernel, by decide +kernel⟩
def t_Number_by_1 : SX :=
    (sRet (eMkKX 3 fn_Number_init "Number" 1 1 (fun as bs => as ++ bs) [(.ex (eFld ["Answer", "Number"] "what" (eVar 0)))] [(.ex (eVar 1))]))
def sem_Number_by : SX :=
    t_Number_by_1
def fn_Number_by : List Cell → Rs D := (fnB 2 sem_Number_by)
section
variable {P : Program} {w : World} {K : PySem.W.Frag} {mg : Str → Option Value} {bh : Heap}
theorem ok_Number_by {f : Addr} {fd : FuncData} {cm : Str → Addr} {f_Number_init : Addr} {fd_Number_init : FuncData} (B : Blt mg) (T : Txt K mg) (KI : Kits K mg cm) (R_Number_init : RdyMkX P w K mg bh "Number" (cm "Number") 4 ["self", "what", "ends"] (spD (Gx.mk K cm none TT) 3 fn_Number_init) f_Number_init fd_Number_init) (W_Number_init_1_ends : FillK K fd_Number_init ["self", "what", "ends"] 2 ["ends"] (fun vs zs => vs ++ zs)) (F : FunD K "by" "Number.by" (defArgs s_Number_by) (defBody s_Number_by) (defScope s_Number_by) [] [] f fd) : FnOk P w K mg bh (L2.CX P w) 6 f fd ["self", "ends"] (spD (Gx.mk K cm none TT) 2 fn_Number_by) := by
  refine F.ok sc_Number_by (spQ_len rfl) (fun cdv A outer s H vs Q E hr h => ?_)
  exact body_of (G := (Gx.mk K cm none TT)) (W := fun c d _ H => E c d H)
      (dss_one (ds_ret (de_mkKX R_Number_init W_Number_init_1_ends arr_app hr (by decide) (by rfl) (takes_of rfl rfl rfl rfl) (da_cons (de_fld (Cs := ["Answer", "Number"]) (de_var (i := 0)) KI.fo_Answer_Number_what) da_nil) (dk_cons (de_var (i := 1)) dk_nil))))
      rfl (fun _ _ _ _ z => z) h
end
/-! _law_take -/
abbrev s_l_take : Stmt := topS 86
abbrev sc_l_take_N : List Str := ["_law_bag_here", "_law_many", "_law_digit"]
theorem sc_l_take : FnScope sc_l_take_N ["_law_bag_here", "_law_many"] (defScope s_l_take) := ⟨rfl, rfl, rfl, by decide +kernel, rfl, by decide +kernel, by decide +kernel⟩
def t_l_take_1 : SX :=
    (sIf (bBl (eOp (op2 gtD) [(.ex (eOp (op2 ixD) [(.sl 0), (.ex (eC (.int 0)))])), (.ex (eC (.int 0)))]))
    (sSeq (sSet 2 (eOp (op2 modD) [(.ex (eOp (op1 intD) [(.ex (eOp (op2 ixD) [(.sl 0), (.ex (eC (.int 0)))]))])), (.ex (eVar 1))]))
    (sSeq (sPut 0 (eOp (op2 divD) [(.ex (eOp (op2 ixD) [(.sl 0), (.ex (eC (.int 0)))])), (.ex (eVar 1))]) (eC (.int 0)))
    (sRet (eVar 2))))
    sNil)
def t_l_take_2 : SX :=
    (sPut 0 (eOp (op2 modD) [(.ex (eOp (op1 intD) [(.ex (eOp (op2 addD) [(.ex (eOp (op2 mulD) [(.ex (eOp (op2 ixD) [(.sl 0), (.ex (eC (.int 1)))])), (.ex (eC (.int 48271)))])), (.ex (eC (.int 70001)))]))])), (.ex (eC (.int 2147483629)))]) (eC (.int 1)))
def t_l_take_3 : SX :=
    (sRet (eOp (op2 modD) [(.ex (eOp (op2 divD) [(.ex (eOp (op2 modD) [(.ex (eOp (op1 intD) [(.ex (eOp (op2 mulD) [(.ex (eOp (op2 divD) [(.ex (eOp (op2 ixD) [(.sl 0), (.ex (eC (.int 1)))])), (.ex (eC (.int 11)))])), (.ex (eC (.int 39373)))]))])), (.ex (eC (.int 2147483647)))])), (.ex (eC (.int 64)))])), (.ex (eVar 1))]))
def sem_l_take : SX :=
    (sSeq t_l_take_1
    (sSeq t_l_take_2
    t_l_take_3))
def fn_l_take : List Cell → Rs D := fnN (fnB 3 sem_l_take)
section
variable {P : Program} {w : World} {K : PySem.W.Frag} {mg : Str → Option Value} {bh : Heap}
theorem ok_l_take {f : Addr} {fd : FuncData} {cm : Str → Addr} (B : Blt mg) (T : Txt K mg) (KI : Kits K mg cm) (F : Fun K "_law_take" "_law_take" s_l_take f fd) : FnOk P w K mg bh CX0 1 f fd ["_law_bag_here", "_law_many"] (spD (Gx.mk K cm none TT) 2 fn_l_take) := by
  refine F.ok sc_l_take (spQ_len rfl) (fun cdv A outer s H vs Q E hr h => ?_)
  exact body_ofN (G := (Gx.mk K cm none TT))
      (dss_cons (ds_if (dt_cmp od_gt (de_ix (do_sl (i := 0)) de_int) de_int (nomark _))
      (dss_cons (ds_set (i := 2) sc_l_take.nd (de_bin od_mod (de_callTy cd_int (by rfl) B.b_int (by decide +kernel) (da_cons (de_ix (do_sl (i := 0)) de_int) da_nil)) (de_var (i := 1))))
      (dss_cons (ds_put (i := 0) (de_bin od_div (de_ix (do_sl (i := 0)) de_int) (de_var (i := 1))) de_int)
      (dss_one (ds_ret (de_var (i := 2))))))
      dss_nil)
      (dss_cons (ds_put (i := 0) (de_bin od_mod (de_callTy cd_int (by rfl) B.b_int (by decide +kernel) (da_cons (de_bin od_add (de_bin od_mul (de_ix (do_sl (i := 0)) de_int) de_int) de_int) da_nil)) de_int) de_int)
      (dss_one (ds_ret (de_bin od_mod (de_bin od_div (de_bin od_mod (de_callTy cd_int (by rfl) B.b_int (by decide +kernel) (da_cons (de_bin od_mul (de_bin od_div (de_ix (do_sl (i := 0)) de_int) de_int) de_int) da_nil)) de_int) de_int) (de_var (i := 1)))))))
      rfl h
end
/-! _law_of -/
abbrev s_l_of : Stmt := topS 87
abbrev sc_l_of_N : List Str := ["_law_bag_here", "_law_some"]
theorem sc_l_of : FnScope sc_l_of_N ["_law_bag_here", "_law_some"] (defScope s_l_of) := ⟨rfl, rfl, rfl, by decide +kernel, rfl, by decide +kernel, by decide +kernel⟩
def t_l_of_1 : SX :=
    (sRet (eOp (op2 ixD) [(.ex (eVar 1)), (.ex (eCall 2 fn_l_take [] [(.sl 0), (.ex (eOp (op1 lenD) [(.ex (eVar 1))]))]))]))
def sem_l_of : SX :=
    t_l_of_1
def fn_l_of : List Cell → Rs D := fnN (fnB 2 sem_l_of)
section
variable {P : Program} {w : World} {K : PySem.W.Frag} {mg : Str → Option Value} {bh : Heap}
theorem ok_l_of {f : Addr} {fd : FuncData} {cm : Str → Addr} {f_l_take : Addr} {fd_l_take : FuncData} (B : Blt mg) (T : Txt K mg) (KI : Kits K mg cm) (R_l_take : Rdy P w K mg bh "_law_take" 1 ["_law_bag_here", "_law_many"] (spD (Gx.mk K cm none TT) 2 fn_l_take) f_l_take fd_l_take) (F : Fun K "_law_of" "_law_of" s_l_of f fd) : FnOk P w K mg bh CX0 2 f fd ["_law_bag_here", "_law_some"] (spD (Gx.mk K cm none TT) 2 fn_l_of) := by
  refine F.ok sc_l_of (spQ_len rfl) (fun cdv A outer s H vs Q E hr h => ?_)
  exact body_ofN (G := (Gx.mk K cm none TT))
      (dss_one (ds_ret (de_ix (de_var (i := 1)) (de_call R_l_take hr (by decide) (by rfl) (da_cons (do_sl (i := 0)) (da_cons (de_callB cd_len (by rfl) B.b_len (by decide +kernel) (da_cons (de_var (i := 1)) da_nil)) da_nil))))))
      rfl h
end
/-! _law_wish -/
abbrev s_l_wish : Stmt := topS 89
abbrev sc_l_wish_N : List Str := ["_law_kind", "_law_term", "_law_shape", "_law_inside_only", "_law_word"]
theorem sc_l_wish : FnScope sc_l_wish_N ["_law_kind", "_law_term", "_law_shape", "_law_inside_only", "_law_word"] (defScope s_l_wish) := ⟨rfl, rfl, rfl, by decide +kernel, rfl, by decide +kernel, by decide +kernel⟩
def t_l_wish_1 : SX :=
    (sIf (bBl (eOp (op2 eqD) [(.ex (eVar 0)), (.ex (eC (.str "moments")))]))
    (sRet (eMkKN 5 fn_Moments_init "Moments" 1 3 (fun as bs => as ++ bs) [(.ex (eVar 1))] [(.ex (eVar 3)), (.ex (eVar 2)), (.ex (eVar 4))]))
    sNil)
def t_l_wish_2 : SX :=
    (sRet (eIf (bBl (eOp (op2 eqD) [(.ex (eVar 0)), (.ex (eC (.str "answer")))])) (eMkKN 3 fn_Answer_init "Answer" 1 1 (fun as bs => as ++ bs) [(.ex (eVar 1))] [(.ex (eVar 4))]) (eMkKN 3 fn_Number_init "Number" 1 1 (fun as bs => as ++ bs) [(.ex (eVar 1))] [(.ex (eVar 4))])))
def sem_l_wish : SX :=
    (sSeq t_l_wish_1
    t_l_wish_2)
def fn_l_wish : List Cell → Rs D := fnN (fnB 5 sem_l_wish)
section
variable {P : Program} {w : World} {K : PySem.W.Frag} {mg : Str → Option Value} {bh : Heap}
theorem ok_l_wish {f : Addr} {fd : FuncData} {cm : Str → Addr} {f_Moments_init : Addr} {fd_Moments_init : FuncData} {f_Answer_init : Addr} {fd_Answer_init : FuncData} {f_Number_init : Addr} {fd_Number_init : FuncData} (B : Blt mg) (T : Txt K mg) (KI : Kits K mg cm) (R_Moments_init : RdyMkX P w K mg bh "Moments" (cm "Moments") 4 ["self", "which", "within", "form", "ends"] (spD (Gx.mk K cm none TT) 5 fn_Moments_init) f_Moments_init fd_Moments_init) (R_Answer_init : RdyMkX P w K mg bh "Answer" (cm "Answer") 4 ["self", "what", "ends"] (spD (Gx.mk K cm none TT) 3 fn_Answer_init) f_Answer_init fd_Answer_init) (R_Number_init : RdyMkX P w K mg bh "Number" (cm "Number") 4 ["self", "what", "ends"] (spD (Gx.mk K cm none TT) 3 fn_Number_init) f_Number_init fd_Number_init) (W_Moments_init_1_within_form_ends : FillK K fd_Moments_init ["self", "which", "within", "form", "ends"] 2 ["within", "form", "ends"] (fun vs zs => vs ++ zs)) (W_Answer_init_1_ends : FillK K fd_Answer_init ["self", "what", "ends"] 2 ["ends"] (fun vs zs => vs ++ zs)) (W_Number_init_1_ends : FillK K fd_Number_init ["self", "what", "ends"] 2 ["ends"] (fun vs zs => vs ++ zs)) (F : Fun K "_law_wish" "_law_wish" s_l_wish f fd) : FnOk P w K mg bh CX0 6 f fd ["_law_kind", "_law_term", "_law_shape", "_law_inside_only", "_law_word"] (spD (Gx.mk K cm none TT) 5 fn_l_wish) := by
  refine F.ok sc_l_wish (spQ_len rfl) (fun cdv A outer s H vs Q E hr h => ?_)
  exact body_ofN (G := (Gx.mk K cm none TT))
      (dss_cons (ds_if (dt_cmp (od_eq hr.units) (de_var (i := 0)) (de_str (by decide +kernel)) (nomark _))
      (dss_one (ds_ret (de_mkKN R_Moments_init W_Moments_init_1_within_form_ends arr_app hr (by decide) (by rfl) (da_cons (de_var (i := 1)) da_nil) (dk_cons (de_var (i := 3)) (dk_cons (de_var (i := 2)) (dk_cons (de_var (i := 4)) dk_nil))))))
      dss_nil)
      (dss_one (ds_ret (de_ifExp (dt_cmp (od_eq hr.units) (de_var (i := 0)) (de_str (by decide +kernel)) (nomark _)) (de_mkKN R_Answer_init W_Answer_init_1_ends arr_app hr (by decide) (by rfl) (da_cons (de_var (i := 1)) da_nil) (dk_cons (de_var (i := 4)) dk_nil)) (de_mkKN R_Number_init W_Number_init_1_ends arr_app hr (by decide) (by rfl) (da_cons (de_var (i := 1)) da_nil) (dk_cons (de_var (i := 4)) dk_nil))))))
      rfl h
end
/-! _law_orders -/
abbrev s_l_orders : Stmt := topS 88
abbrev sc_l_orders_N : List Str := ["_law_kind"]
theorem sc_l_orders : FnScope sc_l_orders_N ["_law_kind"] (defScope s_l_orders) := ⟨rfl, rfl, rfl, by decide +kernel, rfl, by decide +kernel, by decide +kernel⟩
def t_l_orders_1 : SX :=
    (sIf (bBl (eOp (op2 eqD) [(.ex (eVar 0)), (.ex (eC (.str "events")))]))
    (sRetF (fLst [(.ex (eC (.str "at"))), (.ex (eC (.str "at in"))), (.ex (eC (.str "at out")))]))
    sNil)
def t_l_orders_2 : SX :=
    (sRetF (fLst [(.ex (eC (.str "any"))), (.ex (eC (.str "begin"))), (.ex (eC (.str "begin end"))), (.ex (eC (.str "begin back"))), (.ex (eC (.str "end"))), (.ex (eC (.str "end begin"))), (.ex (eC (.str "end back")))]))
def sem_l_orders : SX :=
    (sSeq t_l_orders_1
    t_l_orders_2)
def fn_l_orders : List Cell → Rs (List D) := fnN (fnBF 1 sem_l_orders)
section
variable {P : Program} {w : World} {K : PySem.W.Frag} {mg : Str → Option Value} {bh : Heap}
theorem ok_l_orders {f : Addr} {fd : FuncData} {cm : Str → Addr} (B : Blt mg) (T : Txt K mg) (KI : Kits K mg cm) (F : Fun K "_law_orders" "_law_orders" s_l_orders f fd) : FnOk P w K mg bh CX0 1 f fd ["_law_kind"] (spF (Gx.mk K cm none TT) 1 fn_l_orders) := by
  refine F.ok sc_l_orders (spQ_len rfl) (fun cdv A outer s H vs Q E hr h => ?_)
  exact body_ofNF (G := (Gx.mk K cm none TT))
      (dss_cons (ds_if (dt_cmp (od_eq hr.units) (de_var (i := 0)) (de_str (by decide +kernel)) (nomark _))
      (dss_one (ds_retF (df_lst (da_cons (de_str (by decide +kernel)) (da_cons (de_str (by decide +kernel)) (da_cons (de_str (by decide +kernel)) da_nil))))))
      dss_nil)
      (dss_one (ds_retF (df_lst (da_cons (de_str (by decide +kernel)) (da_cons (de_str (by decide +kernel)) (da_cons (de_str (by decide +kernel)) (da_cons (de_str (by decide +kernel)) (da_cons (de_str (by decide +kernel)) (da_cons (de_str (by decide +kernel)) (da_cons (de_str (by decide +kernel)) da_nil)))))))))))
      rfl h
end
/-! Moments.uses_window -/
abbrev s_Moments_uses_window : Stmt := inClass (topS 60) 1
abbrev sc_Moments_uses_window_N : List Str := ["self"]
theorem sc_Moments_uses_window : FnScope sc_Moments_uses_window_N ["self"] (defScope s_Moments_uses_window) := ⟨rfl, rfl, rfl, by decide +kernel, rfl, by decide +kernel, by decide +kernel⟩
def t_Moments_uses_window_1 : SX :=
    (sRet (eOr (eFld ["Moments"] "within" (eVar 0)) (eOp (op2 eqD) [(.ex (eFld ["Moments"] "form" (eVar 0))), (.ex (eC (.str "cut")))])))
def sem_Moments_uses_window : SX :=
    t_Moments_uses_window_1
def fn_Moments_uses_window : List Cell → Rs D := fnN (fnB 1 sem_Moments_uses_window)
section
variable {P : Program} {w : World} {K : PySem.W.Frag} {mg : Str → Option Value} {bh : Heap}
theorem ok_Moments_uses_window {f : Addr} {fd : FuncData} {cm : Str → Addr} (B : Blt mg) (T : Txt K mg) (KI : Kits K mg cm) (F : Fun K "uses_window" "Moments.uses_window" s_Moments_uses_window f fd) : FnOk P w K mg bh CX0 1 f fd ["self"] (spD (Gx.mk K cm none TT) 1 fn_Moments_uses_window) := by
  refine F.ok sc_Moments_uses_window (spQ_len rfl) (fun cdv A outer s H vs Q E hr h => ?_)
  exact body_ofN (G := (Gx.mk K cm none TT))
      (dss_one (ds_ret (de_or (de_fld (Cs := ["Moments"]) (de_var (i := 0)) KI.fo_Moments_within) (de_one (de_cmp (od_eq hr.units) (de_fld (Cs := ["Moments"]) (de_var (i := 0)) KI.fo_Moments_form) (de_str (by decide +kernel)) (nomark _))))))
      rfl h
end
/-! Answer.uses_window -/
abbrev s_Answer_uses_window : Stmt := inClass (topS 61) 1
abbrev sc_Answer_uses_window_N : List Str := ["self"]
theorem sc_Answer_uses_window : FnScope sc_Answer_uses_window_N ["self"] (defScope s_Answer_uses_window) := ⟨rfl, rfl, rfl, by decide +kernel, rfl, by decide +kernel, by decide +kernel⟩
def t_Answer_uses_window_1 : SX :=
    (sRet (eOp (op2 inD) [(.ex (eFld ["Answer", "Number"] "what" (eVar 0))), (.ex (eTup [(.ex (eC (.str "busy"))), (.ex (eC (.str "covered")))]))]))
def sem_Answer_uses_window : SX :=
    t_Answer_uses_window_1
def fn_Answer_uses_window : List Cell → Rs D := fnN (fnB 1 sem_Answer_uses_window)
section
variable {P : Program} {w : World} {K : PySem.W.Frag} {mg : Str → Option Value} {bh : Heap}
theorem ok_Answer_uses_window {f : Addr} {fd : FuncData} {cm : Str → Addr} (B : Blt mg) (T : Txt K mg) (KI : Kits K mg cm) (F : Fun K "uses_window" "Answer.uses_window" s_Answer_uses_window f fd) : FnOk P w K mg bh CX0 1 f fd ["self"] (spD (Gx.mk K cm none TT) 1 fn_Answer_uses_window) := by
  refine F.ok sc_Answer_uses_window (spQ_len rfl) (fun cdv A outer s H vs Q E hr h => ?_)
  exact body_ofN (G := (Gx.mk K cm none TT))
      (dss_one (ds_ret (de_cmp (od_in (un65 hr)) (de_fld (Cs := ["Answer", "Number"]) (de_var (i := 0)) KI.fo_Answer_Number_what) (de_tup (da_cons (de_str (by decide +kernel)) (da_cons (de_str (by decide +kernel)) da_nil))) (by rfl))))
      rfl h
end
/-! Number.uses_window -/
abbrev s_Number_uses_window : Stmt := inClass (topS 62) 1
abbrev sc_Number_uses_window_N : List Str := ["self"]
theorem sc_Number_uses_window : FnScope sc_Number_uses_window_N ["self"] (defScope s_Number_uses_window) := ⟨rfl, rfl, rfl, by decide +kernel, rfl, by decide +kernel, by decide +kernel⟩
def t_Number_uses_window_1 : SX :=
    (sRet (eOp (op2 inD) [(.ex (eFld ["Answer", "Number"] "what" (eVar 0))), (.ex (eTup [(.ex (eC (.str "left"))), (.ex (eC (.str "within"))), (.ex (eC (.str "touched")))]))]))
def sem_Number_uses_window : SX :=
    t_Number_uses_window_1
def fn_Number_uses_window : List Cell → Rs D := fnN (fnB 1 sem_Number_uses_window)
section
variable {P : Program} {w : World} {K : PySem.W.Frag} {mg : Str → Option Value} {bh : Heap}
theorem ok_Number_uses_window {f : Addr} {fd : FuncData} {cm : Str → Addr} (B : Blt mg) (T : Txt K mg) (KI : Kits K mg cm) (F : Fun K "uses_window" "Number.uses_window" s_Number_uses_window f fd) : FnOk P w K mg bh CX0 1 f fd ["self"] (spD (Gx.mk K cm none TT) 1 fn_Number_uses_window) := by
  refine F.ok sc_Number_uses_window (spQ_len rfl) (fun cdv A outer s H vs Q E hr h => ?_)
  exact body_ofN (G := (Gx.mk K cm none TT))
      (dss_one (ds_ret (de_cmp (od_in (un65 hr)) (de_fld (Cs := ["Answer", "Number"]) (de_var (i := 0)) KI.fo_Answer_Number_what) (de_tup (da_cons (de_str (by decide +kernel)) (da_cons (de_str (by decide +kernel)) (da_cons (de_str (by decide +kernel)) da_nil)))) (by rfl))))
      rfl h
end
/-! Moments.wants_begins -/
abbrev s_Moments_wants_begins : Stmt := inClass (topS 60) 2
abbrev sc_Moments_wants_begins_N : List Str := ["self"]
theorem sc_Moments_wants_begins : FnScope sc_Moments_wants_begins_N ["self"] (defScope s_Moments_wants_begins) := ⟨rfl, rfl, rfl, by decide +kernel, rfl, by decide +kernel, by decide +kernel⟩
def t_Moments_wants_begins_1 : SX :=
    (sRet (eC (.bl false)))
def sem_Moments_wants_begins : SX :=
    t_Moments_wants_begins_1
def fn_Moments_wants_begins : List Cell → Rs D := fnN (fnB 1 sem_Moments_wants_begins)
section
variable {P : Program} {w : World} {K : PySem.W.Frag} {mg : Str → Option Value} {bh : Heap}
theorem ok_Moments_wants_begins {f : Addr} {fd : FuncData} {cm : Str → Addr} (B : Blt mg) (T : Txt K mg) (KI : Kits K mg cm) (F : Fun K "wants_begins" "Moments.wants_begins" s_Moments_wants_begins f fd) : FnOk P w K mg bh CX0 1 f fd ["self"] (spD (Gx.mk K cm none TT) 1 fn_Moments_wants_begins) := by
  refine F.ok sc_Moments_wants_begins (spQ_len rfl) (fun cdv A outer s H vs Q E hr h => ?_)
  exact body_ofN (G := (Gx.mk K cm none TT))
      (dss_one (ds_ret de_bl))
      rfl h
end
/-! Answer.wants_begins -/
abbrev s_Answer_wants_begins : Stmt := inClass (topS 61) 2
abbrev sc_Answer_wants_begins_N : List Str := ["self"]
theorem sc_Answer_wants_begins : FnScope sc_Answer_wants_begins_N ["self"] (defScope s_Answer_wants_begins) := ⟨rfl, rfl, rfl, by decide +kernel, rfl, by decide +kernel, by decide +kernel⟩
def t_Answer_wants_begins_1 : SX :=
    (sRet (eOp (op2 inD) [(.ex (eFld ["Answer", "Number"] "what" (eVar 0))), (.ex (eTup [(.ex (eC (.str "covered"))), (.ex (eC (.str "clash")))]))]))
def sem_Answer_wants_begins : SX :=
    t_Answer_wants_begins_1
def fn_Answer_wants_begins : List Cell → Rs D := fnN (fnB 1 sem_Answer_wants_begins)
section
variable {P : Program} {w : World} {K : PySem.W.Frag} {mg : Str → Option Value} {bh : Heap}
theorem ok_Answer_wants_begins {f : Addr} {fd : FuncData} {cm : Str → Addr} (B : Blt mg) (T : Txt K mg) (KI : Kits K mg cm) (F : Fun K "wants_begins" "Answer.wants_begins" s_Answer_wants_begins f fd) : FnOk P w K mg bh CX0 1 f fd ["self"] (spD (Gx.mk K cm none TT) 1 fn_Answer_wants_begins) := by
  refine F.ok sc_Answer_wants_begins (spQ_len rfl) (fun cdv A outer s H vs Q E hr h => ?_)
  exact body_ofN (G := (Gx.mk K cm none TT))
      (dss_one (ds_ret (de_cmp (od_in (un65 hr)) (de_fld (Cs := ["Answer", "Number"]) (de_var (i := 0)) KI.fo_Answer_Number_what) (de_tup (da_cons (de_str (by decide +kernel)) (da_cons (de_str (by decide +kernel)) da_nil))) (by rfl))))
      rfl h
end
/-! Number.wants_begins -/
abbrev s_Number_wants_begins : Stmt := inClass (topS 62) 2
abbrev sc_Number_wants_begins_N : List Str := ["self"]
theorem sc_Number_wants_begins : FnScope sc_Number_wants_begins_N ["self"] (defScope s_Number_wants_begins) := ⟨rfl, rfl, rfl, by decide +kernel, rfl, by decide +kernel, by decide +kernel⟩
def t_Number_wants_begins_1 : SX :=
    (sRet (eOp (op2 eqD) [(.ex (eFld ["Answer", "Number"] "what" (eVar 0))), (.ex (eC (.str "pieces")))]))
def sem_Number_wants_begins : SX :=
    t_Number_wants_begins_1
def fn_Number_wants_begins : List Cell → Rs D := fnN (fnB 1 sem_Number_wants_begins)
section
variable {P : Program} {w : World} {K : PySem.W.Frag} {mg : Str → Option Value} {bh : Heap}
theorem ok_Number_wants_begins {f : Addr} {fd : FuncData} {cm : Str → Addr} (B : Blt mg) (T : Txt K mg) (KI : Kits K mg cm) (F : Fun K "wants_begins" "Number.wants_begins" s_Number_wants_begins f fd) : FnOk P w K mg bh CX0 1 f fd ["self"] (spD (Gx.mk K cm none TT) 1 fn_Number_wants_begins) := by
  refine F.ok sc_Number_wants_begins (spQ_len rfl) (fun cdv A outer s H vs Q E hr h => ?_)
  exact body_ofN (G := (Gx.mk K cm none TT))
      (dss_one (ds_ret (de_cmp (od_eq hr.units) (de_fld (Cs := ["Answer", "Number"]) (de_var (i := 0)) KI.fo_Answer_Number_what) (de_str (by decide +kernel)) (nomark _))))
      rfl h
end
/-! reads_events -/
abbrev s_reads_events : Stmt := topS 37
abbrev sc_reads_events_N : List Str := ["order"]
theorem sc_reads_events : FnScope sc_reads_events_N ["order"] (defScope s_reads_events) := ⟨rfl, rfl, rfl, by decide +kernel, rfl, by decide +kernel, by decide +kernel⟩
def t_reads_events_1 : SX :=
    (sRet (eOp (op2 inD) [(.ex (eVar 0)), (.ex (eC (.tup [(.str "at"), (.str "at in"), (.str "at out")])))]))
def sem_reads_events : SX :=
    t_reads_events_1
def fn_reads_events : List Cell → Rs D := fnN (fnB 1 sem_reads_events)
section
variable {P : Program} {w : World} {K : PySem.W.Frag} {mg : Str → Option Value} {bh : Heap}
theorem ok_reads_events {f : Addr} {fd : FuncData} {cm : Str → Addr} (B : Blt mg) (T : Txt K mg) (KI : Kits K mg cm) (F : Fun K "reads_events" "reads_events" s_reads_events f fd) : FnOk P w K mg bh CX0 1 f fd ["order"] (spD (Gx.mk K cm none TT) 1 fn_reads_events) := by
  refine F.ok sc_reads_events (spQ_len rfl) (fun cdv A outer s H vs Q E hr h => ?_)
  exact body_ofN (G := (Gx.mk K cm none TT))
      (dss_one (ds_ret (de_cmp (od_in (un65 hr)) (de_var (i := 0)) (de_glT KI.gt_EVENT_ORDERS (by rfl)) (by rfl))))
      rfl h
end
/-! Loop.reads -/
abbrev s_Loop_reads : Stmt := inClass (topS 80) 1
abbrev sc_Loop_reads_N : List Str := ["self"]
theorem sc_Loop_reads : FnScope sc_Loop_reads_N ["self"] (defScope s_Loop_reads) := ⟨rfl, rfl, rfl, by decide +kernel, rfl, by decide +kernel, by decide +kernel⟩
def t_Loop_reads_1 : SX :=
    (sRet (eIf (bTru (.ex (eCall 1 fn_reads_events [] [(.ex (eFld ["Loop"] "order" (eVar 0)))]))) (eC (.str "events")) (eC (.str "stretches"))))
def sem_Loop_reads : SX :=
    t_Loop_reads_1
def fn_Loop_reads : List Cell → Rs D := fnN (fnB 1 sem_Loop_reads)
section
variable {P : Program} {w : World} {K : PySem.W.Frag} {mg : Str → Option Value} {bh : Heap}
theorem ok_Loop_reads {f : Addr} {fd : FuncData} {cm : Str → Addr} {f_reads_events : Addr} {fd_reads_events : FuncData} (B : Blt mg) (T : Txt K mg) (KI : Kits K mg cm) (R_reads_events : Rdy P w K mg bh "reads_events" 1 ["order"] (spD (Gx.mk K cm none TT) 1 fn_reads_events) f_reads_events fd_reads_events) (F : Fun K "reads" "Loop.reads" s_Loop_reads f fd) : FnOk P w K mg bh CX0 2 f fd ["self"] (spD (Gx.mk K cm none TT) 1 fn_Loop_reads) := by
  refine F.ok sc_Loop_reads (spQ_len rfl) (fun cdv A outer s H vs Q E hr h => ?_)
  exact body_ofN (G := (Gx.mk K cm none TT))
      (dss_one (ds_ret (de_ifExp (dt_tru (de_call R_reads_events hr (by decide) (by rfl) (da_cons (de_fld (Cs := ["Loop"]) (de_var (i := 0)) KI.fo_Loop_order) da_nil))) (de_str (by decide +kernel)) (de_str (by decide +kernel)))))
      rfl h
end
/-! Moments.fits -/
abbrev s_Moments_fits : Stmt := inClass (topS 60) 4
abbrev sc_Moments_fits_N : List Str := ["self", "loop"]
theorem sc_Moments_fits : FnScope sc_Moments_fits_N ["self", "loop"] (defScope s_Moments_fits) := ⟨rfl, rfl, rfl, by decide +kernel, rfl, by decide +kernel, by decide +kernel⟩
def t_Moments_fits_1 : SX :=
    (sRet (eOp (op2 eqD) [(.ex (eOp (op2 eqD) [(.ex (eProp "Loop" fn_Loop_reads (eVar 1))), (.ex (eC (.str "events")))])), (.ex (eOp (op2 eqD) [(.ex (eFld ["Moments"] "which" (eVar 0))), (.ex (eC (.str "inside")))]))]))
def sem_Moments_fits : SX :=
    t_Moments_fits_1
def fn_Moments_fits : List Cell → Rs D := (fnB 2 sem_Moments_fits)
section
variable {P : Program} {w : World} {K : PySem.W.Frag} {mg : Str → Option Value} {bh : Heap}
theorem ok_Moments_fits {f : Addr} {fd : FuncData} {cm : Str → Addr} {f_Loop_reads : Addr} {fd_Loop_reads : FuncData} {p_Loop_reads : Addr} (B : Blt mg) (T : Txt K mg) (KI : Kits K mg cm) (R_Loop_reads : RdyPr P w K mg bh (cm "Loop") "reads" 2 (spD (Gx.mk K cm none TT) 1 fn_Loop_reads) p_Loop_reads f_Loop_reads fd_Loop_reads) (F : FunD K "fits" "Moments.fits" (defArgs s_Moments_fits) (defBody s_Moments_fits) (defScope s_Moments_fits) [] [] f fd) : FnOk P w K mg bh (L2.CX P w) 4 f fd ["self", "loop"] (spD (Gx.mk K cm none TT) 2 fn_Moments_fits) := by
  refine F.ok sc_Moments_fits (spQ_len rfl) (fun cdv A outer s H vs Q E hr h => ?_)
  exact body_of (G := (Gx.mk K cm none TT)) (W := fun c d _ H => E c d H)
      (dss_one (ds_ret (de_cmp (od_eq hr.units) (de_cmp (od_eq hr.units) (de_propE (de_var (i := 1)) R_Loop_reads KI.cl_Loop hr (by decide)) (de_str (by decide +kernel)) (nomark _)) (de_cmp (od_eq hr.units) (de_fld (Cs := ["Moments"]) (de_var (i := 0)) KI.fo_Moments_which) (de_str (by decide +kernel)) (nomark _)) (nomark _))))
      rfl (fun _ _ _ _ z => z) h
end
/-! Answer.fits -/
abbrev s_Answer_fits : Stmt := inClass (topS 61) 4
abbrev sc_Answer_fits_N : List Str := ["self", "loop"]
theorem sc_Answer_fits : FnScope sc_Answer_fits_N ["self", "loop"] (defScope s_Answer_fits) := ⟨rfl, rfl, rfl, by decide +kernel, rfl, by decide +kernel, by decide +kernel⟩
def t_Answer_fits_1 : SX :=
    (sRet (eOp (op2 eqD) [(.ex (eProp "Loop" fn_Loop_reads (eVar 1))), (.ex (eC (.str "stretches")))]))
def sem_Answer_fits : SX :=
    t_Answer_fits_1
def fn_Answer_fits : List Cell → Rs D := (fnB 2 sem_Answer_fits)
section
variable {P : Program} {w : World} {K : PySem.W.Frag} {mg : Str → Option Value} {bh : Heap}
theorem ok_Answer_fits {f : Addr} {fd : FuncData} {cm : Str → Addr} {f_Loop_reads : Addr} {fd_Loop_reads : FuncData} {p_Loop_reads : Addr} (B : Blt mg) (T : Txt K mg) (KI : Kits K mg cm) (R_Loop_reads : RdyPr P w K mg bh (cm "Loop") "reads" 2 (spD (Gx.mk K cm none TT) 1 fn_Loop_reads) p_Loop_reads f_Loop_reads fd_Loop_reads) (F : FunD K "fits" "Answer.fits" (defArgs s_Answer_fits) (defBody s_Answer_fits) (defScope s_Answer_fits) [] [] f fd) : FnOk P w K mg bh (L2.CX P w) 4 f fd ["self", "loop"] (spD (Gx.mk K cm none TT) 2 fn_Answer_fits) := by
  refine F.ok sc_Answer_fits (spQ_len rfl) (fun cdv A outer s H vs Q E hr h => ?_)
  exact body_of (G := (Gx.mk K cm none TT)) (W := fun c d _ H => E c d H)
      (dss_one (ds_ret (de_cmp (od_eq hr.units) (de_propE (de_var (i := 1)) R_Loop_reads KI.cl_Loop hr (by decide)) (de_str (by decide +kernel)) (nomark _))))
      rfl (fun _ _ _ _ z => z) h
end
/-! Number.fits -/
abbrev s_Number_fits : Stmt := inClass (topS 62) 4
abbrev sc_Number_fits_N : List Str := ["self", "loop"]
theorem sc_Number_fits : FnScope sc_Number_fits_N ["self", "loop"] (defScope s_Number_fits) := ⟨rfl, rfl, rfl, by decide +kernel, rfl, by decide +kernel, by decide +kernel⟩
def t_Number_fits_1 : SX :=
    (sRet (eOp (op2 eqD) [(.ex (eProp "Loop" fn_Loop_reads (eVar 1))), (.ex (eC (.str "stretches")))]))
def sem_Number_fits : SX :=
    t_Number_fits_1
def fn_Number_fits : List Cell → Rs D := (fnB 2 sem_Number_fits)
section
variable {P : Program} {w : World} {K : PySem.W.Frag} {mg : Str → Option Value} {bh : Heap}
theorem ok_Number_fits {f : Addr} {fd : FuncData} {cm : Str → Addr} {f_Loop_reads : Addr} {fd_Loop_reads : FuncData} {p_Loop_reads : Addr} (B : Blt mg) (T : Txt K mg) (KI : Kits K mg cm) (R_Loop_reads : RdyPr P w K mg bh (cm "Loop") "reads" 2 (spD (Gx.mk K cm none TT) 1 fn_Loop_reads) p_Loop_reads f_Loop_reads fd_Loop_reads) (F : FunD K "fits" "Number.fits" (defArgs s_Number_fits) (defBody s_Number_fits) (defScope s_Number_fits) [] [] f fd) : FnOk P w K mg bh (L2.CX P w) 4 f fd ["self", "loop"] (spD (Gx.mk K cm none TT) 2 fn_Number_fits) := by
  refine F.ok sc_Number_fits (spQ_len rfl) (fun cdv A outer s H vs Q E hr h => ?_)
  exact body_of (G := (Gx.mk K cm none TT)) (W := fun c d _ H => E c d H)
      (dss_one (ds_ret (de_cmp (od_eq hr.units) (de_propE (de_var (i := 1)) R_Loop_reads KI.cl_Loop hr (by decide)) (de_str (by decide +kernel)) (nomark _))))
      rfl (fun _ _ _ _ z => z) h
end
/-! Moments.__eq__ -/
abbrev s_Moments_eq : Stmt := inClass (topS 60) 7
abbrev sc_Moments_eq_N : List Str := ["self", "other"]
theorem sc_Moments_eq : FnScope sc_Moments_eq_N ["self", "other"] (defScope s_Moments_eq) := ⟨rfl, rfl, rfl, by decide +kernel, rfl, by decide +kernel, by decide +kernel⟩
def t_Moments_eq_1 : SX :=
    (sRet (eAnd (eIsi tb_own ow_Moments (.ex (eVar 1))) (eAnd (eOp (op2 eqD) [(.ex (eFld ["Moments"] "which" (eVar 0))), (.ex (eFld ["Moments"] "which" (eVar 1)))]) (eAnd (eOp (op2 eqD) [(.ex (eFld ["Moments"] "within" (eVar 0))), (.ex (eFld ["Moments"] "within" (eVar 1)))]) (eAnd (eOp (op2 eqD) [(.ex (eFld ["Moments"] "form" (eVar 0))), (.ex (eFld ["Moments"] "form" (eVar 1)))]) (eOp (op2 eqD) [(.ex (eFld ["Moments", "Answer", "Number"] "ends" (eVar 0))), (.ex (eFld ["Moments", "Answer", "Number"] "ends" (eVar 1)))]))))))
def sem_Moments_eq : SX :=
    t_Moments_eq_1
def fn_Moments_eq : List Cell → Rs D := fnN (fnB 2 sem_Moments_eq)
section
variable {P : Program} {w : World} {K : PySem.W.Frag} {mg : Str → Option Value} {bh : Heap}
theorem ok_Moments_eq {f : Addr} {fd : FuncData} {cm : Str → Addr} (B : Blt mg) (T : Txt K mg) (KI : Kits K mg cm) (F : Fun K "__eq__" "Moments.__eq__" s_Moments_eq f fd) : FnOk P w K mg bh CX0 1 f fd ["self", "other"] (spD (Gx.mk K cm none TT) 2 fn_Moments_eq) := by
  refine F.ok sc_Moments_eq (spQ_len rfl) (fun cdv A outer s H vs Q E hr h => ?_)
  exact body_ofN (G := (Gx.mk K cm none TT))
      (dss_one (ds_ret (de_and (de_isi (de_var (i := 1)) KI.k_Moments (.own _) (pe_glob (v := .ref (cm "Moments")) (by rfl) KI.g_Moments rfl) (by rfl) B.b_isinstance) (de_and (de_cmp (od_eq hr.units) (de_fld (Cs := ["Moments"]) (de_var (i := 0)) KI.fo_Moments_which) (de_fld (Cs := ["Moments"]) (de_var (i := 1)) KI.fo_Moments_which) (nomark _)) (de_and (de_cmp (od_eq hr.units) (de_fld (Cs := ["Moments"]) (de_var (i := 0)) KI.fo_Moments_within) (de_fld (Cs := ["Moments"]) (de_var (i := 1)) KI.fo_Moments_within) (nomark _)) (de_and (de_cmp (od_eq hr.units) (de_fld (Cs := ["Moments"]) (de_var (i := 0)) KI.fo_Moments_form) (de_fld (Cs := ["Moments"]) (de_var (i := 1)) KI.fo_Moments_form) (nomark _)) (de_one (de_cmp (od_eq hr.units) (de_fld (Cs := ["Moments", "Answer", "Number"]) (de_var (i := 0)) KI.fo_Moments_Answer_Number_ends) (de_fld (Cs := ["Moments", "Answer", "Number"]) (de_var (i := 1)) KI.fo_Moments_Answer_Number_ends) (nomark _)))))))))
      rfl h
end
/-! Answer.__eq__ -/
abbrev s_Answer_eq : Stmt := inClass (topS 61) 7
abbrev sc_Answer_eq_N : List Str := ["self", "other"]
theorem sc_Answer_eq : FnScope sc_Answer_eq_N ["self", "other"] (defScope s_Answer_eq) := ⟨rfl, rfl, rfl, by decide +kernel, rfl, by decide +kernel, by decide +kernel⟩
def t_Answer_eq_1 : SX :=
    (sRet (eAnd (eIsi tb_own ow_Answer (.ex (eVar 1))) (eAnd (eOp (op2 eqD) [(.ex (eFld ["Answer", "Number"] "what" (eVar 0))), (.ex (eFld ["Answer", "Number"] "what" (eVar 1)))]) (eOp (op2 eqD) [(.ex (eFld ["Moments", "Answer", "Number"] "ends" (eVar 0))), (.ex (eFld ["Moments", "Answer", "Number"] "ends" (eVar 1)))]))))
def sem_Answer_eq : SX :=
    t_Answer_eq_1
def fn_Answer_eq : List Cell → Rs D := fnN (fnB 2 sem_Answer_eq)
section
variable {P : Program} {w : World} {K : PySem.W.Frag} {mg : Str → Option Value} {bh : Heap}
theorem ok_Answer_eq {f : Addr} {fd : FuncData} {cm : Str → Addr} (B : Blt mg) (T : Txt K mg) (KI : Kits K mg cm) (F : Fun K "__eq__" "Answer.__eq__" s_Answer_eq f fd) : FnOk P w K mg bh CX0 1 f fd ["self", "other"] (spD (Gx.mk K cm none TT) 2 fn_Answer_eq) := by
  refine F.ok sc_Answer_eq (spQ_len rfl) (fun cdv A outer s H vs Q E hr h => ?_)
  exact body_ofN (G := (Gx.mk K cm none TT))
      (dss_one (ds_ret (de_and (de_isi (de_var (i := 1)) KI.k_Answer (.own _) (pe_glob (v := .ref (cm "Answer")) (by rfl) KI.g_Answer rfl) (by rfl) B.b_isinstance) (de_and (de_cmp (od_eq hr.units) (de_fld (Cs := ["Answer", "Number"]) (de_var (i := 0)) KI.fo_Answer_Number_what) (de_fld (Cs := ["Answer", "Number"]) (de_var (i := 1)) KI.fo_Answer_Number_what) (nomark _)) (de_one (de_cmp (od_eq hr.units) (de_fld (Cs := ["Moments", "Answer", "Number"]) (de_var (i := 0)) KI.fo_Moments_Answer_Number_ends) (de_fld (Cs := ["Moments", "Answer", "Number"]) (de_var (i := 1)) KI.fo_Moments_Answer_Number_ends) (nomark _)))))))
      rfl h
end
/-! Number.__eq__ -/
abbrev s_Number_eq : Stmt := inClass (topS 62) 7
abbrev sc_Number_eq_N : List Str := ["self", "other"]
theorem sc_Number_eq : FnScope sc_Number_eq_N ["self", "other"] (defScope s_Number_eq) := ⟨rfl, rfl, rfl, by decide +kernel, rfl, by decide +kernel, by decide +kernel⟩
def t_Number_eq_1 : SX :=
    (sRet (eAnd (eIsi tb_own ow_Number (.ex (eVar 1))) (eAnd (eOp (op2 eqD) [(.ex (eFld ["Answer", "Number"] "what" (eVar 0))), (.ex (eFld ["Answer", "Number"] "what" (eVar 1)))]) (eOp (op2 eqD) [(.ex (eFld ["Moments", "Answer", "Number"] "ends" (eVar 0))), (.ex (eFld ["Moments", "Answer", "Number"] "ends" (eVar 1)))]))))
def sem_Number_eq : SX :=
    t_Number_eq_1
def fn_Number_eq : List Cell → Rs D := fnN (fnB 2 sem_Number_eq)
section
variable {P : Program} {w : World} {K : PySem.W.Frag} {mg : Str → Option Value} {bh : Heap}
theorem ok_Number_eq {f : Addr} {fd : FuncData} {cm : Str → Addr} (B : Blt mg) (T : Txt K mg) (KI : Kits K mg cm) (F : Fun K "__eq__" "Number.__eq__" s_Number_eq f fd) : FnOk P w K mg bh CX0 1 f fd ["self", "other"] (spD (Gx.mk K cm none TT) 2 fn_Number_eq) := by
  refine F.ok sc_Number_eq (spQ_len rfl) (fun cdv A outer s H vs Q E hr h => ?_)
  exact body_ofN (G := (Gx.mk K cm none TT))
      (dss_one (ds_ret (de_and (de_isi (de_var (i := 1)) KI.k_Number (.own _) (pe_glob (v := .ref (cm "Number")) (by rfl) KI.g_Number rfl) (by rfl) B.b_isinstance) (de_and (de_cmp (od_eq hr.units) (de_fld (Cs := ["Answer", "Number"]) (de_var (i := 0)) KI.fo_Answer_Number_what) (de_fld (Cs := ["Answer", "Number"]) (de_var (i := 1)) KI.fo_Answer_Number_what) (nomark _)) (de_one (de_cmp (od_eq hr.units) (de_fld (Cs := ["Moments", "Answer", "Number"]) (de_var (i := 0)) KI.fo_Moments_Answer_Number_ends) (de_fld (Cs := ["Moments", "Answer", "Number"]) (de_var (i := 1)) KI.fo_Moments_Answer_Number_ends) (nomark _)))))))
      rfl h
end
/-! _law_parts_forms -/
abbrev s_l_parts_forms : Stmt := topS 91
abbrev sc_l_parts_forms_N : List Str := ["_law_wish_here", "_law_term", "_law_shape", "_law_inside_only", "_law_word", "_law_other"]
theorem sc_l_parts_forms : FnScope sc_l_parts_forms_N ["_law_wish_here", "_law_term", "_law_shape", "_law_inside_only", "_law_word"] (defScope s_l_parts_forms) := ⟨rfl, rfl, rfl, by decide +kernel, rfl, by decide +kernel, by decide +kernel⟩
def t_l_parts_forms_1 : SX :=
    (sIf (bBl (eOp (op2 neD) [(.ex (eOrB (eOp (op2 (ownEq "Moments" ["Moments", "Answer", "Number", "Loop"] fn_Moments_eq)) [(.ex (eVar 0)), (.ex (eCall 5 fn_l_wish [] [(.ex (eC (.str "moments"))), (.ex (eVar 1)), (.ex (eVar 5)), (.ex (eVar 3)), (.ex (eVar 4))]))]) (eOrB (eOp (op2 (ownEq "Answer" ["Moments", "Answer", "Number", "Loop"] fn_Answer_eq)) [(.ex (eVar 0)), (.ex (eCall 5 fn_l_wish [] [(.ex (eC (.str "moments"))), (.ex (eVar 1)), (.ex (eVar 5)), (.ex (eVar 3)), (.ex (eVar 4))]))]) (eOp (op2 (ownEq "Number" ["Moments", "Answer", "Number", "Loop"] fn_Number_eq)) [(.ex (eVar 0)), (.ex (eCall 5 fn_l_wish [] [(.ex (eC (.str "moments"))), (.ex (eVar 1)), (.ex (eVar 5)), (.ex (eVar 3)), (.ex (eVar 4))]))])))), (.ex (eOp (op2 eqD) [(.ex (eVar 5)), (.ex (eVar 2))]))]))
    (sRet (eC (.bl false)))
    sNil)
def b_l_parts_forms_1 : SX :=
    t_l_parts_forms_1
def t_l_parts_forms_2 : SX :=
    (sFor (fSeq (eFr (fLst [(.ex (eC (.str "one"))), (.ex (eC (.str "full"))), (.ex (eC (.str "any"))), (.ex (eC (.str "cut")))]))) (gSet 5)
    b_l_parts_forms_1)
def t_l_parts_forms_3 : SX :=
    (sRet (eC (.bl true)))
def sem_l_parts_forms : SX :=
    (sSeq t_l_parts_forms_2
    t_l_parts_forms_3)
def fn_l_parts_forms : List Cell → Rs D := fnN (fnB 6 sem_l_parts_forms)
section
variable {P : Program} {w : World} {K : PySem.W.Frag} {mg : Str → Option Value} {bh : Heap}
theorem ok_l_parts_forms {f : Addr} {fd : FuncData} {cm : Str → Addr} {f_l_wish : Addr} {fd_l_wish : FuncData} {f_Moments_eq : Addr} {f_Answer_eq : Addr} {f_Number_eq : Addr} (B : Blt mg) (T : Txt K mg) (KI : Kits K mg cm) (R_l_wish : Rdy P w K mg bh "_law_wish" 6 ["_law_kind", "_law_term", "_law_shape", "_law_inside_only", "_law_word"] (spD (Gx.mk K cm none TT) 5 fn_l_wish) f_l_wish fd_l_wish) (R_Moments_eq : RdyOp P w K mg bh (cm "Moments") "__eq__" 1 (spD (Gx.mk K cm none TT) 2 fn_Moments_eq) f_Moments_eq) (R_Answer_eq : RdyOp P w K mg bh (cm "Answer") "__eq__" 1 (spD (Gx.mk K cm none TT) 2 fn_Answer_eq) f_Answer_eq) (R_Number_eq : RdyOp P w K mg bh (cm "Number") "__eq__" 1 (spD (Gx.mk K cm none TT) 2 fn_Number_eq) f_Number_eq) (F : Fun K "_law_parts_forms" "_law_parts_forms" s_l_parts_forms f fd) : FnOk P w K mg bh CX0 7 f fd ["_law_wish_here", "_law_term", "_law_shape", "_law_inside_only", "_law_word"] (spD (Gx.mk K cm none TT) 5 fn_l_parts_forms) := by
  refine F.ok sc_l_parts_forms (spQ_len rfl) (fun cdv A outer s H vs Q E hr h => ?_)
  exact body_ofN (G := (Gx.mk K cm none TT))
      (dss_cons (ds_for (di_seq (DF.de (df_lst (da_cons (de_str (by decide +kernel)) (da_cons (de_str (by decide +kernel)) (da_cons (de_str (by decide +kernel)) (da_cons (de_str (by decide +kernel)) da_nil))))))) (dg_name sc_l_parts_forms.nd (i := 5))
      (dss_one (ds_if (dt_cmp (od_ne hr.units) (de_orB (de_cmp (od_eqAny R_Moments_eq hr (by decide) KI.nf_Moments) (de_var (i := 0)) (de_call R_l_wish hr (by decide) (by rfl) (da_cons (de_str (by decide +kernel)) (da_cons (de_var (i := 1)) (da_cons (de_var (i := 5)) (da_cons (de_var (i := 3)) (da_cons (de_var (i := 4)) da_nil)))))) (nomark _)) (de_orB (de_cmp (od_eqAny R_Answer_eq hr (by decide) KI.nf_Answer) (de_var (i := 0)) (de_call R_l_wish hr (by decide) (by rfl) (da_cons (de_str (by decide +kernel)) (da_cons (de_var (i := 1)) (da_cons (de_var (i := 5)) (da_cons (de_var (i := 3)) (da_cons (de_var (i := 4)) da_nil)))))) (nomark _)) (de_cmp (od_eqAny R_Number_eq hr (by decide) KI.nf_Number) (de_var (i := 0)) (de_call R_l_wish hr (by decide) (by rfl) (da_cons (de_str (by decide +kernel)) (da_cons (de_var (i := 1)) (da_cons (de_var (i := 5)) (da_cons (de_var (i := 3)) (da_cons (de_var (i := 4)) da_nil)))))) (nomark _)))) (de_cmp (od_eq hr.units) (de_var (i := 5)) (de_var (i := 2)) (nomark _)) (nomark _))
      (dss_one (ds_ret de_bl))
      dss_nil)) PassesOwn.never)
      (dss_one (ds_ret de_bl)))
      rfl h
end
/-! law -/
abbrev s_law : Stmt := topS 92
abbrev sc_law_N : List Str := ["_law_script", "_law_at", "_law_bag_here", "_law_made_of", "_law_wishes", "_law_kind", "_law_term", "_law_shape", "_law_inside_only", "_law_word", "_law_event_loop", "_law_span_loop", "_law_k", "_law_wish_here", "_law_uses", "_law_begins", "_law_other", "_law_turned", "_law_one"]
theorem sc_law : FnScope sc_law_N ["_law_script"] (defScope s_law) := ⟨rfl, rfl, rfl, by decide +kernel, rfl, by decide +kernel, by decide +kernel⟩
def t_law_1 : SX :=
    (sOwn 2 (eCall 2 fn_l_bag [] [(.ex (eVar 0)), (.ex (eVar 1))]))
def t_law_2 : SX :=
    (sParFF 3 4 (fLst []) (fLst []))
def t_law_3 : SX :=
    (sPar 7 8 [(.ex (eCall 2 fn_l_of [] [(.sl 2), (.ex (eFr (fLst [(.ex (eC (.str "one"))), (.ex (eC (.str "full"))), (.ex (eC (.str "any"))), (.ex (eC (.str "cut")))])))])), (.ex (eOp (op2 eqD) [(.ex (eCall 2 fn_l_take [] [(.sl 2), (.ex (eC (.int 2)))])), (.ex (eC (.int 1)))]))])
def t_law_4 : SX :=
    (sIf (bBl (eOp (op2 neD) [(.ex (eVar 5)), (.ex (eC (.str "moments")))]))
    (sAsg (eTup [(.ex (eC .non)), (.ex (eC .non))]) (gTupD 2 (gsCons (gSet 7) (gsCons (gSet 8) gsNil))))
    sNil)
def t_law_5 : SX :=
    (sSet 9 (eCall 2 fn_l_of [] [(.sl 2), (.ex (eFr (fLst [(.ex (eC (.str "half"))), (.ex (eC (.str "shut")))])))]))
def t_law_6 : SX :=
    (sMut 3 (sApp 3 (eTup [(.ex (eVar 5)), (.ex (eVar 6)), (.ex (eVar 7)), (.ex (eVar 8)), (.ex (eVar 9))])))
def t_law_7 : SX :=
    (sMut 4 (sApp 4 (eCall 5 fn_l_wish [] [(.ex (eVar 5)), (.ex (eVar 6)), (.ex (eVar 7)), (.ex (eVar 8)), (.ex (eVar 9))])))
def b_law_1 : SX :=
    (sSeq t_law_3
    (sSeq t_law_4
    (sSeq t_law_5
    (sSeq t_law_6
    t_law_7))))
def t_law_8 : SX :=
    (sFor (fSeq (eFr (eCall 1 fn_l_terms [] [(.ex (eVar 5))]))) (gSet 6)
    b_law_1)
def b_law_2 : SX :=
    t_law_8
def t_law_9 : SX :=
    (sFor (fSeq (eFr (fLst [(.ex (eC (.str "moments"))), (.ex (eC (.str "answer"))), (.ex (eC (.str "number")))]))) (gSet 5)
    b_law_2)
def t_law_10 : SX :=
    (sFrz 3 (sFrz 4 (sPar 10 11 [(.ex (eMk 5 fn_Loop_init "Loop" [(.tup []), (.tup []), (.tup [])] [(.ex (eCall 2 fn_l_of [] [(.sl 2), (.ex (eFr (eCall 1 fn_l_orders [] [(.ex (eC (.str "events")))])))]))])), (.ex (eMk 5 fn_Loop_init "Loop" [(.tup []), (.tup []), (.tup [])] [(.ex (eCall 2 fn_l_of [] [(.sl 2), (.ex (eFr (eCall 1 fn_l_orders [] [(.ex (eC (.str "stretches")))])))]))]))])))
def t_law_11 : SX :=
    (sAsg (eOp (op2 ixD) [(.ex (eVar 3)), (.ex (eVar 12))]) (gTupD 5 (gsCons (gSet 5) (gsCons (gSet 6) (gsCons (gSet 7) (gsCons (gSet 8) (gsCons (gSet 9) gsNil)))))))
def t_law_12 : SX :=
    (sSet 13 (eOp (op2 ixD) [(.ex (eVar 4)), (.ex (eVar 12))]))
def c_law_1 : PEnv → Rs (List D) :=
    (fLc (fSeq (eVar 4)) [18] (gSet 18) bYes (eOrB (eOp (op2 (ownEq "Moments" ["Moments", "Answer", "Number", "Loop"] fn_Moments_eq)) [(.ex (eVar 18)), (.ex (eVar 13))]) (eOrB (eOp (op2 (ownEq "Answer" ["Moments", "Answer", "Number", "Loop"] fn_Answer_eq)) [(.ex (eVar 18)), (.ex (eVar 13))]) (eOp (op2 (ownEq "Number" ["Moments", "Answer", "Number", "Loop"] fn_Number_eq)) [(.ex (eVar 18)), (.ex (eVar 13))]))))
def t_law_13 : SX :=
    (sIf (bOr (bNot (bTru (.ex (eIsi tb_own ow_Wish (.ex (eVar 13)))))) (bOr (bBl (eOp (op2 neD) [(.ex (eFld ["Moments", "Answer", "Number"] "ends" (eVar 13))), (.ex (eVar 9))])) (bBl (eOp (op2 neD) [(.ex (eCount (eFr c_law_1) (eC (.bl true)))), (.ex (eC (.int 1)))]))))
    (sRet (eC (.bl false)))
    sNil)
def t_law_14 : SX :=
    (sIf (bBl (eOp (op2 neD) [(.ex (eIndex (eFr (fLst [(.ex (eIsi tb_own ow_Moments (.ex (eVar 13)))), (.ex (eIsi tb_own ow_Answer (.ex (eVar 13)))), (.ex (eIsi tb_own ow_Number (.ex (eVar 13))))])) (eC (.bl true)))), (.ex (eIndex (eFr (fLst [(.ex (eC (.str "moments"))), (.ex (eC (.str "answer"))), (.ex (eC (.str "number")))])) (eVar 5)))]))
    (sRet (eC (.bl false)))
    sNil)
def t_law_15 : SX :=
    (sIf (bAnd (bBl (eOp (op2 eqD) [(.ex (eVar 5)), (.ex (eC (.str "moments")))])) (bBl (eOp (op2 neD) [(.ex (eTup [(.ex (eFld ["Moments"] "which" (eVar 13))), (.ex (eFld ["Moments"] "form" (eVar 13))), (.ex (eFld ["Moments"] "within" (eVar 13)))])), (.ex (eTup [(.ex (eVar 6)), (.ex (eVar 7)), (.ex (eVar 8))]))])))
    (sRet (eC (.bl false)))
    sNil)
def t_law_16 : SX :=
    (sIf (bAnd (bBl (eOp (op2 neD) [(.ex (eVar 5)), (.ex (eC (.str "moments")))])) (bBl (eOp (op2 neD) [(.ex (eFld ["Answer", "Number"] "what" (eVar 13))), (.ex (eVar 6))])))
    (sRet (eC (.bl false)))
    sNil)
def t_law_17 : SX :=
    (sSet 14 (eOp (op2 inD) [(.ex (eVar 6)), (.ex (eFr (fLst [(.ex (eC (.str "busy"))), (.ex (eC (.str "covered"))), (.ex (eC (.str "left"))), (.ex (eC (.str "within"))), (.ex (eC (.str "touched")))])))]))
def t_law_18 : SX :=
    (sIf (bBl (eOp (op2 eqD) [(.ex (eVar 5)), (.ex (eC (.str "moments")))]))
    (sSet 14 (eOr (eVar 8) (eOp (op2 eqD) [(.ex (eVar 7)), (.ex (eC (.str "cut")))])))
    sNil)
def t_law_19 : SX :=
    (sSet 15 (eOp (op2 inD) [(.ex (eVar 6)), (.ex (eFr (fLst [(.ex (eC (.str "covered"))), (.ex (eC (.str "clash"))), (.ex (eC (.str "pieces")))])))]))
def t_law_20 : SX :=
    (sIf (bOr (bBl (eOp (op2 notInD) [(.ex (eOrB (eProp "Moments" fn_Moments_uses_window (eVar 13)) (eOrB (eProp "Answer" fn_Answer_uses_window (eVar 13)) (eProp "Number" fn_Number_uses_window (eVar 13))))), (.ex (eFr (fLst [(.ex (eC (.bl true))), (.ex (eC (.bl false)))])))])) (bOr (bBl (eOp (op2 neD) [(.ex (eOrB (eProp "Moments" fn_Moments_uses_window (eVar 13)) (eOrB (eProp "Answer" fn_Answer_uses_window (eVar 13)) (eProp "Number" fn_Number_uses_window (eVar 13))))), (.ex (eVar 14))])) (bBl (eOp (op2 neD) [(.ex (eOrB (eProp "Moments" fn_Moments_wants_begins (eVar 13)) (eOrB (eProp "Answer" fn_Answer_wants_begins (eVar 13)) (eProp "Number" fn_Number_wants_begins (eVar 13))))), (.ex (eVar 15))]))))
    (sRet (eC (.bl false)))
    sNil)
def t_law_21 : SX :=
    (sIf (bOr (bBl (eOp (op2 neD) [(.ex (eOrB (eMethN 2 fn_Moments_fits "Moments" "fits" [] (eVar 13) [(.ex (eVar 10))]) (eOrB (eMethN 2 fn_Answer_fits "Answer" "fits" [] (eVar 13) [(.ex (eVar 10))]) (eMethN 2 fn_Number_fits "Number" "fits" [] (eVar 13) [(.ex (eVar 10))])))), (.ex (eOp (op2 eqD) [(.ex (eVar 6)), (.ex (eC (.str "inside")))]))])) (bBl (eOp (op2 neD) [(.ex (eOrB (eMethN 2 fn_Moments_fits "Moments" "fits" [] (eVar 13) [(.ex (eVar 11))]) (eOrB (eMethN 2 fn_Answer_fits "Answer" "fits" [] (eVar 13) [(.ex (eVar 11))]) (eMethN 2 fn_Number_fits "Number" "fits" [] (eVar 13) [(.ex (eVar 11))])))), (.ex (eOp (op2 neD) [(.ex (eVar 6)), (.ex (eC (.str "inside")))]))])))
    (sRet (eC (.bl false)))
    sNil)
def t_law_22 : SX :=
    (sSet 16 (eIf (bBl (eOp (op2 eqD) [(.ex (eVar 9)), (.ex (eC (.str "half")))])) (eC (.str "shut")) (eC (.str "half"))))
def t_law_23 : SX :=
    (sSet 17 (eOrB (eMethN 2 fn_Moments_by "Moments" "by" [] (eVar 13) [(.ex (eVar 16))]) (eOrB (eMethN 2 fn_Answer_by "Answer" "by" [] (eVar 13) [(.ex (eVar 16))]) (eMethN 2 fn_Number_by "Number" "by" [] (eVar 13) [(.ex (eVar 16))]))))
def t_law_24 : SX :=
    (sIf (bOr (bOrB (bBl (eOp (op2 (ownNe "Moments" ["Moments", "Answer", "Number", "Loop"] fn_Moments_eq)) [(.ex (eVar 17)), (.ex (eCall 5 fn_l_wish [] [(.ex (eVar 5)), (.ex (eVar 6)), (.ex (eVar 7)), (.ex (eVar 8)), (.ex (eVar 16))]))])) (bOrB (bBl (eOp (op2 (ownNe "Answer" ["Moments", "Answer", "Number", "Loop"] fn_Answer_eq)) [(.ex (eVar 17)), (.ex (eCall 5 fn_l_wish [] [(.ex (eVar 5)), (.ex (eVar 6)), (.ex (eVar 7)), (.ex (eVar 8)), (.ex (eVar 16))]))])) (bBl (eOp (op2 (ownNe "Number" ["Moments", "Answer", "Number", "Loop"] fn_Number_eq)) [(.ex (eVar 17)), (.ex (eCall 5 fn_l_wish [] [(.ex (eVar 5)), (.ex (eVar 6)), (.ex (eVar 7)), (.ex (eVar 8)), (.ex (eVar 16))]))])))) (bOr (bOrB (bBl (eOp (op2 (ownEq "Moments" ["Moments", "Answer", "Number", "Loop"] fn_Moments_eq)) [(.ex (eVar 17)), (.ex (eVar 13))])) (bOrB (bBl (eOp (op2 (ownEq "Answer" ["Moments", "Answer", "Number", "Loop"] fn_Answer_eq)) [(.ex (eVar 17)), (.ex (eVar 13))])) (bBl (eOp (op2 (ownEq "Number" ["Moments", "Answer", "Number", "Loop"] fn_Number_eq)) [(.ex (eVar 17)), (.ex (eVar 13))])))) (bOrB (bBl (eOp (op2 (ownNe "Moments" ["Moments", "Answer", "Number", "Loop"] fn_Moments_eq)) [(.ex (eOrB (eMethN 2 fn_Moments_by "Moments" "by" [] (eVar 17) [(.ex (eVar 9))]) (eOrB (eMethN 2 fn_Answer_by "Answer" "by" [] (eVar 17) [(.ex (eVar 9))]) (eMethN 2 fn_Number_by "Number" "by" [] (eVar 17) [(.ex (eVar 9))])))), (.ex (eVar 13))])) (bOrB (bBl (eOp (op2 (ownNe "Answer" ["Moments", "Answer", "Number", "Loop"] fn_Answer_eq)) [(.ex (eOrB (eMethN 2 fn_Moments_by "Moments" "by" [] (eVar 17) [(.ex (eVar 9))]) (eOrB (eMethN 2 fn_Answer_by "Answer" "by" [] (eVar 17) [(.ex (eVar 9))]) (eMethN 2 fn_Number_by "Number" "by" [] (eVar 17) [(.ex (eVar 9))])))), (.ex (eVar 13))])) (bBl (eOp (op2 (ownNe "Number" ["Moments", "Answer", "Number", "Loop"] fn_Number_eq)) [(.ex (eOrB (eMethN 2 fn_Moments_by "Moments" "by" [] (eVar 17) [(.ex (eVar 9))]) (eOrB (eMethN 2 fn_Answer_by "Answer" "by" [] (eVar 17) [(.ex (eVar 9))]) (eMethN 2 fn_Number_by "Number" "by" [] (eVar 17) [(.ex (eVar 9))])))), (.ex (eVar 13))]))))))
    (sRet (eC (.bl false)))
    sNil)
def t_law_25 : SX :=
    (sIf (bOr (bOrB (bBl (eOp (op2 (ownNe "Moments" ["Moments", "Answer", "Number", "Loop"] fn_Moments_eq)) [(.ex (eOrB (eMethN 2 fn_Moments_by "Moments" "by" [] (eVar 13) [(.ex (eVar 9))]) (eOrB (eMethN 2 fn_Answer_by "Answer" "by" [] (eVar 13) [(.ex (eVar 9))]) (eMethN 2 fn_Number_by "Number" "by" [] (eVar 13) [(.ex (eVar 9))])))), (.ex (eVar 13))])) (bOrB (bBl (eOp (op2 (ownNe "Answer" ["Moments", "Answer", "Number", "Loop"] fn_Answer_eq)) [(.ex (eOrB (eMethN 2 fn_Moments_by "Moments" "by" [] (eVar 13) [(.ex (eVar 9))]) (eOrB (eMethN 2 fn_Answer_by "Answer" "by" [] (eVar 13) [(.ex (eVar 9))]) (eMethN 2 fn_Number_by "Number" "by" [] (eVar 13) [(.ex (eVar 9))])))), (.ex (eVar 13))])) (bBl (eOp (op2 (ownNe "Number" ["Moments", "Answer", "Number", "Loop"] fn_Number_eq)) [(.ex (eOrB (eMethN 2 fn_Moments_by "Moments" "by" [] (eVar 13) [(.ex (eVar 9))]) (eOrB (eMethN 2 fn_Answer_by "Answer" "by" [] (eVar 13) [(.ex (eVar 9))]) (eMethN 2 fn_Number_by "Number" "by" [] (eVar 13) [(.ex (eVar 9))])))), (.ex (eVar 13))])))) (bOr (bBl (eOp (op2 neD) [(.ex (eFld ["Moments", "Answer", "Number"] "ends" (eVar 13))), (.ex (eVar 9))])) (bOr (bOrB (bBl (eOp (op2 (ownEq "Moments" ["Moments", "Answer", "Number", "Loop"] fn_Moments_eq)) [(.ex (eVar 13)), (.ex (eVar 6))])) (bOrB (bBl (eOp (op2 (ownEq "Answer" ["Moments", "Answer", "Number", "Loop"] fn_Answer_eq)) [(.ex (eVar 13)), (.ex (eVar 6))])) (bBl (eOp (op2 (ownEq "Number" ["Moments", "Answer", "Number", "Loop"] fn_Number_eq)) [(.ex (eVar 13)), (.ex (eVar 6))])))) (bOrB (bBl (eOp (op2 (ownEq "Moments" ["Moments", "Answer", "Number", "Loop"] fn_Moments_eq)) [(.ex (eVar 13)), (.ex (eC .non))])) (bOrB (bBl (eOp (op2 (ownEq "Answer" ["Moments", "Answer", "Number", "Loop"] fn_Answer_eq)) [(.ex (eVar 13)), (.ex (eC .non))])) (bBl (eOp (op2 (ownEq "Number" ["Moments", "Answer", "Number", "Loop"] fn_Number_eq)) [(.ex (eVar 13)), (.ex (eC .non))])))))))
    (sRet (eC (.bl false)))
    sNil)
def t_law_26 : SX :=
    (sIf (bOrB (bBl (eOp (op2 (ownNe "Moments" ["Moments", "Answer", "Number", "Loop"] fn_Moments_eq)) [(.ex (eVar 13)), (.ex (eCall 5 fn_l_wish [] [(.ex (eVar 5)), (.ex (eVar 6)), (.ex (eVar 7)), (.ex (eVar 8)), (.ex (eVar 9))]))])) (bOrB (bBl (eOp (op2 (ownNe "Answer" ["Moments", "Answer", "Number", "Loop"] fn_Answer_eq)) [(.ex (eVar 13)), (.ex (eCall 5 fn_l_wish [] [(.ex (eVar 5)), (.ex (eVar 6)), (.ex (eVar 7)), (.ex (eVar 8)), (.ex (eVar 9))]))])) (bBl (eOp (op2 (ownNe "Number" ["Moments", "Answer", "Number", "Loop"] fn_Number_eq)) [(.ex (eVar 13)), (.ex (eCall 5 fn_l_wish [] [(.ex (eVar 5)), (.ex (eVar 6)), (.ex (eVar 7)), (.ex (eVar 8)), (.ex (eVar 9))]))]))))
    (sRet (eC (.bl false)))
    sNil)
def t_law_27 : SX :=
    (sIf (bAnd (bBl (eOp (op2 eqD) [(.ex (eVar 5)), (.ex (eC (.str "moments")))])) (bOrB (bBl (eOp (op2 (ownEq "Moments" ["Moments", "Answer", "Number", "Loop"] fn_Moments_eq)) [(.ex (eVar 13)), (.ex (eCall 5 fn_l_wish [] [(.ex (eVar 5)), (.ex (eVar 6)), (.ex (eVar 7)), (.ex (eNot (.ex (eVar 8)))), (.ex (eVar 9))]))])) (bOrB (bBl (eOp (op2 (ownEq "Answer" ["Moments", "Answer", "Number", "Loop"] fn_Answer_eq)) [(.ex (eVar 13)), (.ex (eCall 5 fn_l_wish [] [(.ex (eVar 5)), (.ex (eVar 6)), (.ex (eVar 7)), (.ex (eNot (.ex (eVar 8)))), (.ex (eVar 9))]))])) (bBl (eOp (op2 (ownEq "Number" ["Moments", "Answer", "Number", "Loop"] fn_Number_eq)) [(.ex (eVar 13)), (.ex (eCall 5 fn_l_wish [] [(.ex (eVar 5)), (.ex (eVar 6)), (.ex (eVar 7)), (.ex (eNot (.ex (eVar 8)))), (.ex (eVar 9))]))])))))
    (sRet (eC (.bl false)))
    sNil)
def t_law_28 : SX :=
    (sIf (bAnd (bBl (eOp (op2 eqD) [(.ex (eVar 5)), (.ex (eC (.str "moments")))])) (bNot (bTru (.ex (eCall 5 fn_l_parts_forms [] [(.ex (eVar 13)), (.ex (eVar 6)), (.ex (eVar 7)), (.ex (eVar 8)), (.ex (eVar 9))])))))
    (sRet (eC (.bl false)))
    sNil)
def b_law_3 : SX :=
    (sSeq t_law_11
    (sSeq t_law_12
    (sSeq t_law_13
    (sSeq t_law_14
    (sSeq t_law_15
    (sSeq t_law_16
    (sSeq t_law_17
    (sSeq t_law_18
    (sSeq t_law_19
    (sSeq t_law_20
    (sSeq t_law_21
    (sSeq t_law_22
    (sSeq t_law_23
    (sSeq t_law_24
    (sSeq t_law_25
    (sSeq t_law_26
    (sSeq t_law_27
    t_law_28)))))))))))))))))
def t_law_29 : SX :=
    (sFrz 3 (sFrz 4 (sFor (fRng1 (eOp (op1 lenD) [(.ex (eVar 4))])) (gSet 12)
    b_law_3)))
def t_law_30 : SX :=
    (sFrz 3 (sFrz 4 (sIf (bOr (bBl (eOp (op2 (ownNe "Moments" ["Moments", "Answer", "Number", "Loop"] fn_Moments_eq)) [(.ex (eMk 5 fn_Moments_init "Moments" [(.bl false), (.str "one"), (.str "half")] [(.ex (eC (.str "one")))])), (.ex (eMkKN 5 fn_Moments_init "Moments" 1 3 (fun as bs => as ++ bs) [(.ex (eC (.str "one")))] [(.ex (eC (.bl false))), (.ex (eC (.str "one"))), (.ex (eC (.str "half")))]))])) (bBl (eOp (op2 neD) [(.ex (eFld ["Moments", "Answer", "Number"] "ends" (eMk 3 fn_Answer_init "Answer" [(.str "half")] [(.ex (eC (.str "busy")))]))), (.ex (eC (.str "half")))])))
    (sRet (eC (.bl false)))
    sNil)))
def t_law_31 : SX :=
    (sFrz 3 (sFrz 4 (sIf (bOr (bBl (eOp (op2 neD) [(.ex (eFld ["Moments", "Answer", "Number"] "ends" (eMk 3 fn_Number_init "Number" [(.str "half")] [(.ex (eC (.str "all")))]))), (.ex (eC (.str "half")))])) (bOr (bBl (eOp (op2 (ownEq "Answer" ["Moments", "Answer", "Number", "Loop"] fn_Answer_eq)) [(.ex (eMk 3 fn_Answer_init "Answer" [(.str "half")] [(.ex (eC (.str "busy")))])), (.ex (eMk 3 fn_Number_init "Number" [(.str "half")] [(.ex (eC (.str "all")))]))])) (bBl (eOp (op2 (ownEq "Moments" ["Moments", "Answer", "Number", "Loop"] fn_Moments_eq)) [(.ex (eMk 5 fn_Moments_init "Moments" [(.bl false), (.str "one"), (.str "half")] [(.ex (eC (.str "all")))])), (.ex (eMk 3 fn_Number_init "Number" [(.str "half")] [(.ex (eC (.str "all")))]))]))))
    (sRet (eC (.bl false)))
    sNil)))
def b_law_4 : SX :=
    (sSeq t_law_1
    (sSeq t_law_2
    (sSeq t_law_9
    (sSeq t_law_10
    (sSeq t_law_29
    (sSeq t_law_30
    t_law_31))))))
def t_law_32 : SX :=
    (sFor (fRng1 (eOp (op2 maxD) [(.ex (eC (.int 1))), (.ex (eOp (op2 minD) [(.ex (eC (.int 4))), (.ex (eOp (op1 lenD) [(.ex (eVar 0))]))]))])) (gSet 1)
    b_law_4)
def t_law_33 : SX :=
    (sRet (eC (.bl true)))
def sem_law : SX :=
    (sSeq t_law_32
    t_law_33)
def fn_law : List Cell → Rs D := fnN (fnB 19 sem_law)
section
variable {P : Program} {w : World} {K : PySem.W.Frag} {mg : Str → Option Value} {bh : Heap}
theorem ok_law {f : Addr} {fd : FuncData} {cm : Str → Addr} {f_l_bag : Addr} {fd_l_bag : FuncData} {f_l_terms : Addr} {fd_l_terms : FuncData} {f_Loop_init : Addr} {fd_Loop_init : FuncData} {f_Moments_init : Addr} {fd_Moments_init : FuncData} {f_Moments_by : Addr} {fd_Moments_by : FuncData} {f_Answer_init : Addr} {fd_Answer_init : FuncData} {f_Answer_by : Addr} {fd_Answer_by : FuncData} {f_Number_init : Addr} {fd_Number_init : FuncData} {f_Number_by : Addr} {fd_Number_by : FuncData} {f_l_take : Addr} {fd_l_take : FuncData} {f_l_of : Addr} {fd_l_of : FuncData} {f_l_wish : Addr} {fd_l_wish : FuncData} {f_l_orders : Addr} {fd_l_orders : FuncData} {f_Moments_uses_window : Addr} {fd_Moments_uses_window : FuncData} {p_Moments_uses_window : Addr} {f_Answer_uses_window : Addr} {fd_Answer_uses_window : FuncData} {p_Answer_uses_window : Addr} {f_Number_uses_window : Addr} {fd_Number_uses_window : FuncData} {p_Number_uses_window : Addr} {f_Moments_wants_begins : Addr} {fd_Moments_wants_begins : FuncData} {p_Moments_wants_begins : Addr} {f_Answer_wants_begins : Addr} {fd_Answer_wants_begins : FuncData} {p_Answer_wants_begins : Addr} {f_Number_wants_begins : Addr} {fd_Number_wants_begins : FuncData} {p_Number_wants_begins : Addr} {f_Moments_fits : Addr} {fd_Moments_fits : FuncData} {f_Answer_fits : Addr} {fd_Answer_fits : FuncData} {f_Number_fits : Addr} {fd_Number_fits : FuncData} {f_Moments_eq : Addr} {f_Answer_eq : Addr} {f_Number_eq : Addr} {f_l_parts_forms : Addr} {fd_l_parts_forms : FuncData} (B : Blt mg) (T : Txt K mg) (KI : Kits K mg cm) (R_l_bag : Rdy P w K mg bh "_law_bag" 1 ["_law_script", "_law_at"] (spF (Gx.mk K cm none TT) 2 fn_l_bag) f_l_bag fd_l_bag) (R_l_terms : Rdy P w K mg bh "_law_terms" 1 ["_law_kind"] (spF (Gx.mk K cm none TT) 1 fn_l_terms) f_l_terms fd_l_terms) (R_Loop_init : RdyMkX P w K mg bh "Loop" (cm "Loop") 4 ["self", "order", "ahead", "each", "behind"] (spD (Gx.mk K cm none TT) 5 fn_Loop_init) f_Loop_init fd_Loop_init) (R_Moments_init : RdyMkX P w K mg bh "Moments" (cm "Moments") 4 ["self", "which", "within", "form", "ends"] (spD (Gx.mk K cm none TT) 5 fn_Moments_init) f_Moments_init fd_Moments_init) (R_Moments_by : RdyMm P w K mg bh (cm "Moments") "by" 6 ["self", "ends"] (spD (Gx.mk K cm none TT) 2 fn_Moments_by) f_Moments_by fd_Moments_by) (R_Answer_init : RdyMkX P w K mg bh "Answer" (cm "Answer") 4 ["self", "what", "ends"] (spD (Gx.mk K cm none TT) 3 fn_Answer_init) f_Answer_init fd_Answer_init) (R_Answer_by : RdyMm P w K mg bh (cm "Answer") "by" 6 ["self", "ends"] (spD (Gx.mk K cm none TT) 2 fn_Answer_by) f_Answer_by fd_Answer_by) (R_Number_init : RdyMkX P w K mg bh "Number" (cm "Number") 4 ["self", "what", "ends"] (spD (Gx.mk K cm none TT) 3 fn_Number_init) f_Number_init fd_Number_init) (R_Number_by : RdyMm P w K mg bh (cm "Number") "by" 6 ["self", "ends"] (spD (Gx.mk K cm none TT) 2 fn_Number_by) f_Number_by fd_Number_by) (R_l_take : Rdy P w K mg bh "_law_take" 1 ["_law_bag_here", "_law_many"] (spD (Gx.mk K cm none TT) 2 fn_l_take) f_l_take fd_l_take) (R_l_of : Rdy P w K mg bh "_law_of" 2 ["_law_bag_here", "_law_some"] (spD (Gx.mk K cm none TT) 2 fn_l_of) f_l_of fd_l_of) (R_l_wish : Rdy P w K mg bh "_law_wish" 6 ["_law_kind", "_law_term", "_law_shape", "_law_inside_only", "_law_word"] (spD (Gx.mk K cm none TT) 5 fn_l_wish) f_l_wish fd_l_wish) (R_l_orders : Rdy P w K mg bh "_law_orders" 1 ["_law_kind"] (spF (Gx.mk K cm none TT) 1 fn_l_orders) f_l_orders fd_l_orders) (R_Moments_uses_window : RdyPr P w K mg bh (cm "Moments") "uses_window" 1 (spD (Gx.mk K cm none TT) 1 fn_Moments_uses_window) p_Moments_uses_window f_Moments_uses_window fd_Moments_uses_window) (R_Answer_uses_window : RdyPr P w K mg bh (cm "Answer") "uses_window" 1 (spD (Gx.mk K cm none TT) 1 fn_Answer_uses_window) p_Answer_uses_window f_Answer_uses_window fd_Answer_uses_window) (R_Number_uses_window : RdyPr P w K mg bh (cm "Number") "uses_window" 1 (spD (Gx.mk K cm none TT) 1 fn_Number_uses_window) p_Number_uses_window f_Number_uses_window fd_Number_uses_window) (R_Moments_wants_begins : RdyPr P w K mg bh (cm "Moments") "wants_begins" 1 (spD (Gx.mk K cm none TT) 1 fn_Moments_wants_begins) p_Moments_wants_begins f_Moments_wants_begins fd_Moments_wants_begins) (R_Answer_wants_begins : RdyPr P w K mg bh (cm "Answer") "wants_begins" 1 (spD (Gx.mk K cm none TT) 1 fn_Answer_wants_begins) p_Answer_wants_begins f_Answer_wants_begins fd_Answer_wants_begins) (R_Number_wants_begins : RdyPr P w K mg bh (cm "Number") "wants_begins" 1 (spD (Gx.mk K cm none TT) 1 fn_Number_wants_begins) p_Number_wants_begins f_Number_wants_begins fd_Number_wants_begins) (R_Moments_fits : RdyMm P w K mg bh (cm "Moments") "fits" 4 ["self", "loop"] (spD (Gx.mk K cm none TT) 2 fn_Moments_fits) f_Moments_fits fd_Moments_fits) (R_Answer_fits : RdyMm P w K mg bh (cm "Answer") "fits" 4 ["self", "loop"] (spD (Gx.mk K cm none TT) 2 fn_Answer_fits) f_Answer_fits fd_Answer_fits) (R_Number_fits : RdyMm P w K mg bh (cm "Number") "fits" 4 ["self", "loop"] (spD (Gx.mk K cm none TT) 2 fn_Number_fits) f_Number_fits fd_Number_fits) (R_Moments_eq : RdyOp P w K mg bh (cm "Moments") "__eq__" 1 (spD (Gx.mk K cm none TT) 2 fn_Moments_eq) f_Moments_eq) (R_Answer_eq : RdyOp P w K mg bh (cm "Answer") "__eq__" 1 (spD (Gx.mk K cm none TT) 2 fn_Answer_eq) f_Answer_eq) (R_Number_eq : RdyOp P w K mg bh (cm "Number") "__eq__" 1 (spD (Gx.mk K cm none TT) 2 fn_Number_eq) f_Number_eq) (R_l_parts_forms : Rdy P w K mg bh "_law_parts_forms" 7 ["_law_wish_here", "_law_term", "_law_shape", "_law_inside_only", "_law_word"] (spD (Gx.mk K cm none TT) 5 fn_l_parts_forms) f_l_parts_forms fd_l_parts_forms) (W_Moments_init_1_within_form_ends : FillK K fd_Moments_init ["self", "which", "within", "form", "ends"] 2 ["within", "form", "ends"] (fun vs zs => vs ++ zs)) (W_Loop_init_1 : Fill K fd_Loop_init ["self", "order", "ahead", "each", "behind"] [(.ref (cm "()Loop.__init__.ahead")), (.ref (cm "()Loop.__init__.each")), (.ref (cm "()Loop.__init__.behind"))]) (W_Moments_fits_1 : Fill K fd_Moments_fits ["self", "loop"] []) (W_Answer_fits_1 : Fill K fd_Answer_fits ["self", "loop"] []) (W_Number_fits_1 : Fill K fd_Number_fits ["self", "loop"] []) (W_Moments_by_1 : Fill K fd_Moments_by ["self", "ends"] []) (W_Answer_by_1 : Fill K fd_Answer_by ["self", "ends"] []) (W_Number_by_1 : Fill K fd_Number_by ["self", "ends"] []) (W_Answer_init_1 : Fill K fd_Answer_init ["self", "what", "ends"] [(.str "half")]) (W_Moments_init_1 : Fill K fd_Moments_init ["self", "which", "within", "form", "ends"] [(.bl false), (.str "one"), (.str "half")]) (W_Number_init_1 : Fill K fd_Number_init ["self", "what", "ends"] [(.str "half")]) (F : Fun K "law" "law" s_law f fd) : FnG P w K mg bh 8 f fd ["_law_script"] (spD (Gx.mk K cm none TT) 1 fn_law) := by
  refine Fun.okG F sc_law (spQ_len rfl) (fun cdv A outer s H vs Q E gd hr h => ?_)
  exact body_ofN (G := (Gx.mk K cm none TT))
      (dss_cons (ds_for (di_rng1 (de_callB cd_max2 (by rfl) B.b_max (by decide +kernel) (da_cons de_int (da_cons (de_callB cd_min2 (by rfl) B.b_min (by decide +kernel) (da_cons de_int (da_cons (de_callB cd_len (by rfl) B.b_len (by decide +kernel) (da_cons (de_var (i := 0)) da_nil)) da_nil))) da_nil))) (by rfl) B.b_range) (dg_name sc_law.nd (i := 1))
      (dss_cons (ds_own (i := 2) sc_law.nd (df_call R_l_bag hr (by decide) (by rfl) (da_cons (de_var (i := 0)) (da_cons (de_var (i := 1)) da_nil))))
      (dss_cons (ds_parFF (i := 3) (j := 4) sc_law.nd (df_lst da_nil) (df_lst da_nil))
      (dss_cons (ds_for (di_seq (DF.de (df_lst (da_cons (de_str (by decide +kernel)) (da_cons (de_str (by decide +kernel)) (da_cons (de_str (by decide +kernel)) da_nil)))))) (dg_name sc_law.nd (i := 5))
      (dss_one (ds_for (di_seq (DF.de (df_call R_l_terms hr (by decide) (by rfl) (da_cons (de_var (i := 5)) da_nil)))) (dg_name sc_law.nd (i := 6))
      (dss_cons (ds_par (i := 7) (j := 8) sc_law.nd (da_cons (de_call R_l_of hr (by decide) (by rfl) (da_cons (do_sl (i := 2)) (da_cons (DF.de (df_lst (da_cons (de_str (by decide +kernel)) (da_cons (de_str (by decide +kernel)) (da_cons (de_str (by decide +kernel)) (da_cons (de_str (by decide +kernel)) da_nil)))))) da_nil))) (da_cons (de_cmp (od_eq hr.units) (de_call R_l_take hr (by decide) (by rfl) (da_cons (do_sl (i := 2)) (da_cons de_int da_nil))) de_int (nomark _)) da_nil)))
      (dss_cons (ds_if (dt_cmp (od_ne hr.units) (de_var (i := 5)) (de_str (by decide +kernel)) (nomark _))
      (dss_one (ds_asg (de_tup (da_cons de_non (da_cons de_non da_nil))) (dg_tup (by rfl) (dgs_cons (dg_name sc_law.nd (i := 7)) (dgs_cons (dg_name sc_law.nd (i := 8)) dgs_nil)))))
      dss_nil)
      (dss_cons (ds_set (i := 9) sc_law.nd (de_call R_l_of hr (by decide) (by rfl) (da_cons (do_sl (i := 2)) (da_cons (DF.de (df_lst (da_cons (de_str (by decide +kernel)) (da_cons (de_str (by decide +kernel)) da_nil)))) da_nil))))
      (dss_cons (ds_app (i := 3) (de_tup (da_cons (de_var (i := 5)) (da_cons (de_var (i := 6)) (da_cons (de_var (i := 7)) (da_cons (de_var (i := 8)) (da_cons (de_var (i := 9)) da_nil)))))))
      (dss_one (ds_app (i := 4) (de_call R_l_wish hr (by decide) (by rfl) (da_cons (de_var (i := 5)) (da_cons (de_var (i := 6)) (da_cons (de_var (i := 7)) (da_cons (de_var (i := 8)) (da_cons (de_var (i := 9)) da_nil)))))))))))) PassesOwn.never)) PassesOwn.never)
      (dss_cons (ds_frz (i := 3) (ds_frz (i := 4) (ds_par (i := 10) (j := 11) sc_law.nd (da_cons (de_mkN R_Loop_init W_Loop_init_1 hr (by decide) (by rfl) (da_cons (de_call R_l_of hr (by decide) (by rfl) (da_cons (do_sl (i := 2)) (da_cons (DF.de (df_call R_l_orders hr (by decide) (by rfl) (da_cons (de_str (by decide +kernel)) da_nil))) da_nil))) da_nil) (fun _ => .cons (EmpT.rp KI.e_Loop_init_ahead) (.cons (EmpT.rp KI.e_Loop_init_each) (.cons (EmpT.rp KI.e_Loop_init_behind) (.nil))))) (da_cons (de_mkN R_Loop_init W_Loop_init_1 hr (by decide) (by rfl) (da_cons (de_call R_l_of hr (by decide) (by rfl) (da_cons (do_sl (i := 2)) (da_cons (DF.de (df_call R_l_orders hr (by decide) (by rfl) (da_cons (de_str (by decide +kernel)) da_nil))) da_nil))) da_nil) (fun _ => .cons (EmpT.rp KI.e_Loop_init_ahead) (.cons (EmpT.rp KI.e_Loop_init_each) (.cons (EmpT.rp KI.e_Loop_init_behind) (.nil))))) da_nil)))))
      (dss_cons (ds_frz (i := 3) (ds_frz (i := 4) (ds_for (di_rng1 (de_callB cd_len (by rfl) B.b_len (by decide +kernel) (da_cons (de_var (i := 4)) da_nil)) (by rfl) B.b_range) (dg_name sc_law.nd (i := 12))
      (dss_cons (ds_asg (de_ix (de_var (i := 3)) (de_var (i := 12))) (dg_tup (by rfl) (dgs_cons (dg_name sc_law.nd (i := 5)) (dgs_cons (dg_name sc_law.nd (i := 6)) (dgs_cons (dg_name sc_law.nd (i := 7)) (dgs_cons (dg_name sc_law.nd (i := 8)) (dgs_cons (dg_name sc_law.nd (i := 9)) dgs_nil)))))))
      (dss_cons (ds_set (i := 13) sc_law.nd (de_ix (de_var (i := 4)) (de_var (i := 12))))
      (dss_cons (ds_if (DW.pt (dw_or (dt_not (dt_tru (de_isi (de_var (i := 13)) KI.k_Wish (.own _) (pe_glob (v := .ref (cm "Wish")) (by rfl) KI.g_Wish rfl) (by rfl) B.b_isinstance))) (dw_or (dt_cmp (od_ne hr.units) (de_fld (Cs := ["Moments", "Answer", "Number"]) (de_var (i := 13)) KI.fo_Moments_Answer_Number_ends) (de_var (i := 9)) (nomark _)) (dw_or1 (dt_cmp (od_ne hr.units) (de_count (un65 hr) (DF.de (df_lc (own := [("_law_one", 18)]) (di_seq (de_var (i := 4))) (blkOk_by (own := [("_law_one", 18)]) (N := sc_law_N) (sc := defScope s_law) (by decide +kernel)) (fun _ _ _ _ _ => (dg_name sc_law.nd (i := 18))) (fun _ _ _ _ _ => dts_nil) (fun _ _ _ _ _ => (de_orB (de_cmp (od_eqAny R_Moments_eq hr (by decide) KI.nf_Moments) (de_var (i := 18)) (de_var (i := 13)) (nomark _)) (de_orB (de_cmp (od_eqAny R_Answer_eq hr (by decide) KI.nf_Answer) (de_var (i := 18)) (de_var (i := 13)) (nomark _)) (de_cmp (od_eqAny R_Number_eq hr (by decide) KI.nf_Number) (de_var (i := 18)) (de_var (i := 13)) (nomark _))))) sc_law.nd)) de_bl) de_int (nomark _))))))
      (dss_one (ds_ret de_bl))
      dss_nil)
      (dss_cons (ds_if (dt_cmp (od_ne hr.units) (de_index (un65 hr) (DF.de (df_lst (da_cons (de_isi (de_var (i := 13)) KI.k_Moments (.own _) (pe_glob (v := .ref (cm "Moments")) (by rfl) KI.g_Moments rfl) (by rfl) B.b_isinstance) (da_cons (de_isi (de_var (i := 13)) KI.k_Answer (.own _) (pe_glob (v := .ref (cm "Answer")) (by rfl) KI.g_Answer rfl) (by rfl) B.b_isinstance) (da_cons (de_isi (de_var (i := 13)) KI.k_Number (.own _) (pe_glob (v := .ref (cm "Number")) (by rfl) KI.g_Number rfl) (by rfl) B.b_isinstance) da_nil))))) de_bl) (de_index (un65 hr) (DF.de (df_lst (da_cons (de_str (by decide +kernel)) (da_cons (de_str (by decide +kernel)) (da_cons (de_str (by decide +kernel)) da_nil))))) (de_var (i := 5))) (nomark _))
      (dss_one (ds_ret de_bl))
      dss_nil)
      (dss_cons (ds_if (DW.pt (dw_and (dt_cmp (od_eq hr.units) (de_var (i := 5)) (de_str (by decide +kernel)) (nomark _)) (dw_and1 (dt_cmp (od_ne hr.units) (de_tup (da_cons (de_fld (Cs := ["Moments"]) (de_var (i := 13)) KI.fo_Moments_which) (da_cons (de_fld (Cs := ["Moments"]) (de_var (i := 13)) KI.fo_Moments_form) (da_cons (de_fld (Cs := ["Moments"]) (de_var (i := 13)) KI.fo_Moments_within) da_nil)))) (de_tup (da_cons (de_var (i := 6)) (da_cons (de_var (i := 7)) (da_cons (de_var (i := 8)) da_nil)))) (nomark _)))))
      (dss_one (ds_ret de_bl))
      dss_nil)
      (dss_cons (ds_if (DW.pt (dw_and (dt_cmp (od_ne hr.units) (de_var (i := 5)) (de_str (by decide +kernel)) (nomark _)) (dw_and1 (dt_cmp (od_ne hr.units) (de_fld (Cs := ["Answer", "Number"]) (de_var (i := 13)) KI.fo_Answer_Number_what) (de_var (i := 6)) (nomark _)))))
      (dss_one (ds_ret de_bl))
      dss_nil)
      (dss_cons (ds_set (i := 14) sc_law.nd (de_cmp (od_in (un65 hr)) (de_var (i := 6)) (DF.de (df_lst (da_cons (de_str (by decide +kernel)) (da_cons (de_str (by decide +kernel)) (da_cons (de_str (by decide +kernel)) (da_cons (de_str (by decide +kernel)) (da_cons (de_str (by decide +kernel)) da_nil))))))) (by rfl)))
      (dss_cons (ds_if (dt_cmp (od_eq hr.units) (de_var (i := 5)) (de_str (by decide +kernel)) (nomark _))
      (dss_one (ds_set (i := 14) sc_law.nd (de_or (de_var (i := 8)) (de_one (de_cmp (od_eq hr.units) (de_var (i := 7)) (de_str (by decide +kernel)) (nomark _))))))
      dss_nil)
      (dss_cons (ds_set (i := 15) sc_law.nd (de_cmp (od_in (un65 hr)) (de_var (i := 6)) (DF.de (df_lst (da_cons (de_str (by decide +kernel)) (da_cons (de_str (by decide +kernel)) (da_cons (de_str (by decide +kernel)) da_nil))))) (by rfl)))
      (dss_cons (ds_if (DW.pt (dw_or (dt_cmp (od_notIn (un65 hr)) (de_orB (de_propE (de_var (i := 13)) R_Moments_uses_window KI.cl_Moments hr (by decide)) (de_orB (de_propE (de_var (i := 13)) R_Answer_uses_window KI.cl_Answer hr (by decide)) (de_propE (de_var (i := 13)) R_Number_uses_window KI.cl_Number hr (by decide)))) (DF.de (df_lst (da_cons de_bl (da_cons de_bl da_nil)))) (by rfl)) (dw_or (dt_cmp (od_ne hr.units) (de_orB (de_propE (de_var (i := 13)) R_Moments_uses_window KI.cl_Moments hr (by decide)) (de_orB (de_propE (de_var (i := 13)) R_Answer_uses_window KI.cl_Answer hr (by decide)) (de_propE (de_var (i := 13)) R_Number_uses_window KI.cl_Number hr (by decide)))) (de_var (i := 14)) (nomark _)) (dw_or1 (dt_cmp (od_ne hr.units) (de_orB (de_propE (de_var (i := 13)) R_Moments_wants_begins KI.cl_Moments hr (by decide)) (de_orB (de_propE (de_var (i := 13)) R_Answer_wants_begins KI.cl_Answer hr (by decide)) (de_propE (de_var (i := 13)) R_Number_wants_begins KI.cl_Number hr (by decide)))) (de_var (i := 15)) (nomark _))))))
      (dss_one (ds_ret de_bl))
      dss_nil)
      (dss_cons (ds_if (DW.pt (dw_or (dt_cmp (od_ne hr.units) (de_orB (de_methN (de_var (i := 13)) R_Moments_fits W_Moments_fits_1 hr (by decide) (da_cons (de_var (i := 10)) da_nil) (fun _ => .nil)) (de_orB (de_methN (de_var (i := 13)) R_Answer_fits W_Answer_fits_1 hr (by decide) (da_cons (de_var (i := 10)) da_nil) (fun _ => .nil)) (de_methN (de_var (i := 13)) R_Number_fits W_Number_fits_1 hr (by decide) (da_cons (de_var (i := 10)) da_nil) (fun _ => .nil)))) (de_cmp (od_eq hr.units) (de_var (i := 6)) (de_str (by decide +kernel)) (nomark _)) (nomark _)) (dw_or1 (dt_cmp (od_ne hr.units) (de_orB (de_methN (de_var (i := 13)) R_Moments_fits W_Moments_fits_1 hr (by decide) (da_cons (de_var (i := 11)) da_nil) (fun _ => .nil)) (de_orB (de_methN (de_var (i := 13)) R_Answer_fits W_Answer_fits_1 hr (by decide) (da_cons (de_var (i := 11)) da_nil) (fun _ => .nil)) (de_methN (de_var (i := 13)) R_Number_fits W_Number_fits_1 hr (by decide) (da_cons (de_var (i := 11)) da_nil) (fun _ => .nil)))) (de_cmp (od_ne hr.units) (de_var (i := 6)) (de_str (by decide +kernel)) (nomark _)) (nomark _)))))
      (dss_one (ds_ret de_bl))
      dss_nil)
      (dss_cons (ds_set (i := 16) sc_law.nd (de_ifExp (dt_cmp (od_eq hr.units) (de_var (i := 9)) (de_str (by decide +kernel)) (nomark _)) (de_str (by decide +kernel)) (de_str (by decide +kernel))))
      (dss_cons (ds_set (i := 17) sc_law.nd (de_orB (de_methN (de_var (i := 13)) R_Moments_by W_Moments_by_1 hr (by decide) (da_cons (de_var (i := 16)) da_nil) (fun _ => .nil)) (de_orB (de_methN (de_var (i := 13)) R_Answer_by W_Answer_by_1 hr (by decide) (da_cons (de_var (i := 16)) da_nil) (fun _ => .nil)) (de_methN (de_var (i := 13)) R_Number_by W_Number_by_1 hr (by decide) (da_cons (de_var (i := 16)) da_nil) (fun _ => .nil)))))
      (dss_cons (ds_if (DW.pt (dw_or (dt_orB (dt_cmp (od_neAny R_Moments_eq hr (by decide) KI.nf_Moments KI.ne_Moments KI.ob_Moments) (de_var (i := 17)) (de_call R_l_wish hr (by decide) (by rfl) (da_cons (de_var (i := 5)) (da_cons (de_var (i := 6)) (da_cons (de_var (i := 7)) (da_cons (de_var (i := 8)) (da_cons (de_var (i := 16)) da_nil)))))) (nomark _)) (dt_orB (dt_cmp (od_neAny R_Answer_eq hr (by decide) KI.nf_Answer KI.ne_Answer KI.ob_Answer) (de_var (i := 17)) (de_call R_l_wish hr (by decide) (by rfl) (da_cons (de_var (i := 5)) (da_cons (de_var (i := 6)) (da_cons (de_var (i := 7)) (da_cons (de_var (i := 8)) (da_cons (de_var (i := 16)) da_nil)))))) (nomark _)) (dt_cmp (od_neAny R_Number_eq hr (by decide) KI.nf_Number KI.ne_Number KI.ob_Number) (de_var (i := 17)) (de_call R_l_wish hr (by decide) (by rfl) (da_cons (de_var (i := 5)) (da_cons (de_var (i := 6)) (da_cons (de_var (i := 7)) (da_cons (de_var (i := 8)) (da_cons (de_var (i := 16)) da_nil)))))) (nomark _)))) (dw_or (dt_orB (dt_cmp (od_eqAny R_Moments_eq hr (by decide) KI.nf_Moments) (de_var (i := 17)) (de_var (i := 13)) (nomark _)) (dt_orB (dt_cmp (od_eqAny R_Answer_eq hr (by decide) KI.nf_Answer) (de_var (i := 17)) (de_var (i := 13)) (nomark _)) (dt_cmp (od_eqAny R_Number_eq hr (by decide) KI.nf_Number) (de_var (i := 17)) (de_var (i := 13)) (nomark _)))) (dw_or1 (dt_orB (dt_cmp (od_neAny R_Moments_eq hr (by decide) KI.nf_Moments KI.ne_Moments KI.ob_Moments) (de_orB (de_methN (de_var (i := 17)) R_Moments_by W_Moments_by_1 hr (by decide) (da_cons (de_var (i := 9)) da_nil) (fun _ => .nil)) (de_orB (de_methN (de_var (i := 17)) R_Answer_by W_Answer_by_1 hr (by decide) (da_cons (de_var (i := 9)) da_nil) (fun _ => .nil)) (de_methN (de_var (i := 17)) R_Number_by W_Number_by_1 hr (by decide) (da_cons (de_var (i := 9)) da_nil) (fun _ => .nil)))) (de_var (i := 13)) (nomark _)) (dt_orB (dt_cmp (od_neAny R_Answer_eq hr (by decide) KI.nf_Answer KI.ne_Answer KI.ob_Answer) (de_orB (de_methN (de_var (i := 17)) R_Moments_by W_Moments_by_1 hr (by decide) (da_cons (de_var (i := 9)) da_nil) (fun _ => .nil)) (de_orB (de_methN (de_var (i := 17)) R_Answer_by W_Answer_by_1 hr (by decide) (da_cons (de_var (i := 9)) da_nil) (fun _ => .nil)) (de_methN (de_var (i := 17)) R_Number_by W_Number_by_1 hr (by decide) (da_cons (de_var (i := 9)) da_nil) (fun _ => .nil)))) (de_var (i := 13)) (nomark _)) (dt_cmp (od_neAny R_Number_eq hr (by decide) KI.nf_Number KI.ne_Number KI.ob_Number) (de_orB (de_methN (de_var (i := 17)) R_Moments_by W_Moments_by_1 hr (by decide) (da_cons (de_var (i := 9)) da_nil) (fun _ => .nil)) (de_orB (de_methN (de_var (i := 17)) R_Answer_by W_Answer_by_1 hr (by decide) (da_cons (de_var (i := 9)) da_nil) (fun _ => .nil)) (de_methN (de_var (i := 17)) R_Number_by W_Number_by_1 hr (by decide) (da_cons (de_var (i := 9)) da_nil) (fun _ => .nil)))) (de_var (i := 13)) (nomark _))))))))
      (dss_one (ds_ret de_bl))
      dss_nil)
      (dss_cons (ds_if (DW.pt (dw_or (dt_orB (dt_cmp (od_neAny R_Moments_eq hr (by decide) KI.nf_Moments KI.ne_Moments KI.ob_Moments) (de_orB (de_methN (de_var (i := 13)) R_Moments_by W_Moments_by_1 hr (by decide) (da_cons (de_var (i := 9)) da_nil) (fun _ => .nil)) (de_orB (de_methN (de_var (i := 13)) R_Answer_by W_Answer_by_1 hr (by decide) (da_cons (de_var (i := 9)) da_nil) (fun _ => .nil)) (de_methN (de_var (i := 13)) R_Number_by W_Number_by_1 hr (by decide) (da_cons (de_var (i := 9)) da_nil) (fun _ => .nil)))) (de_var (i := 13)) (nomark _)) (dt_orB (dt_cmp (od_neAny R_Answer_eq hr (by decide) KI.nf_Answer KI.ne_Answer KI.ob_Answer) (de_orB (de_methN (de_var (i := 13)) R_Moments_by W_Moments_by_1 hr (by decide) (da_cons (de_var (i := 9)) da_nil) (fun _ => .nil)) (de_orB (de_methN (de_var (i := 13)) R_Answer_by W_Answer_by_1 hr (by decide) (da_cons (de_var (i := 9)) da_nil) (fun _ => .nil)) (de_methN (de_var (i := 13)) R_Number_by W_Number_by_1 hr (by decide) (da_cons (de_var (i := 9)) da_nil) (fun _ => .nil)))) (de_var (i := 13)) (nomark _)) (dt_cmp (od_neAny R_Number_eq hr (by decide) KI.nf_Number KI.ne_Number KI.ob_Number) (de_orB (de_methN (de_var (i := 13)) R_Moments_by W_Moments_by_1 hr (by decide) (da_cons (de_var (i := 9)) da_nil) (fun _ => .nil)) (de_orB (de_methN (de_var (i := 13)) R_Answer_by W_Answer_by_1 hr (by decide) (da_cons (de_var (i := 9)) da_nil) (fun _ => .nil)) (de_methN (de_var (i := 13)) R_Number_by W_Number_by_1 hr (by decide) (da_cons (de_var (i := 9)) da_nil) (fun _ => .nil)))) (de_var (i := 13)) (nomark _)))) (dw_or (dt_cmp (od_ne hr.units) (de_fld (Cs := ["Moments", "Answer", "Number"]) (de_var (i := 13)) KI.fo_Moments_Answer_Number_ends) (de_var (i := 9)) (nomark _)) (dw_or (dt_orB (dt_cmp (od_eqAny R_Moments_eq hr (by decide) KI.nf_Moments) (de_var (i := 13)) (de_var (i := 6)) (nomark _)) (dt_orB (dt_cmp (od_eqAny R_Answer_eq hr (by decide) KI.nf_Answer) (de_var (i := 13)) (de_var (i := 6)) (nomark _)) (dt_cmp (od_eqAny R_Number_eq hr (by decide) KI.nf_Number) (de_var (i := 13)) (de_var (i := 6)) (nomark _)))) (dw_or1 (dt_orB (dt_cmp (od_eqAny R_Moments_eq hr (by decide) KI.nf_Moments) (de_var (i := 13)) de_non (nomark _)) (dt_orB (dt_cmp (od_eqAny R_Answer_eq hr (by decide) KI.nf_Answer) (de_var (i := 13)) de_non (nomark _)) (dt_cmp (od_eqAny R_Number_eq hr (by decide) KI.nf_Number) (de_var (i := 13)) de_non (nomark _)))))))))
      (dss_one (ds_ret de_bl))
      dss_nil)
      (dss_cons (ds_if (dt_orB (dt_cmp (od_neAny R_Moments_eq hr (by decide) KI.nf_Moments KI.ne_Moments KI.ob_Moments) (de_var (i := 13)) (de_call R_l_wish hr (by decide) (by rfl) (da_cons (de_var (i := 5)) (da_cons (de_var (i := 6)) (da_cons (de_var (i := 7)) (da_cons (de_var (i := 8)) (da_cons (de_var (i := 9)) da_nil)))))) (nomark _)) (dt_orB (dt_cmp (od_neAny R_Answer_eq hr (by decide) KI.nf_Answer KI.ne_Answer KI.ob_Answer) (de_var (i := 13)) (de_call R_l_wish hr (by decide) (by rfl) (da_cons (de_var (i := 5)) (da_cons (de_var (i := 6)) (da_cons (de_var (i := 7)) (da_cons (de_var (i := 8)) (da_cons (de_var (i := 9)) da_nil)))))) (nomark _)) (dt_cmp (od_neAny R_Number_eq hr (by decide) KI.nf_Number KI.ne_Number KI.ob_Number) (de_var (i := 13)) (de_call R_l_wish hr (by decide) (by rfl) (da_cons (de_var (i := 5)) (da_cons (de_var (i := 6)) (da_cons (de_var (i := 7)) (da_cons (de_var (i := 8)) (da_cons (de_var (i := 9)) da_nil)))))) (nomark _))))
      (dss_one (ds_ret de_bl))
      dss_nil)
      (dss_cons (ds_if (DW.pt (dw_and (dt_cmp (od_eq hr.units) (de_var (i := 5)) (de_str (by decide +kernel)) (nomark _)) (dw_and1 (dt_orB (dt_cmp (od_eqAny R_Moments_eq hr (by decide) KI.nf_Moments) (de_var (i := 13)) (de_call R_l_wish hr (by decide) (by rfl) (da_cons (de_var (i := 5)) (da_cons (de_var (i := 6)) (da_cons (de_var (i := 7)) (da_cons (de_not (de_var (i := 8))) (da_cons (de_var (i := 9)) da_nil)))))) (nomark _)) (dt_orB (dt_cmp (od_eqAny R_Answer_eq hr (by decide) KI.nf_Answer) (de_var (i := 13)) (de_call R_l_wish hr (by decide) (by rfl) (da_cons (de_var (i := 5)) (da_cons (de_var (i := 6)) (da_cons (de_var (i := 7)) (da_cons (de_not (de_var (i := 8))) (da_cons (de_var (i := 9)) da_nil)))))) (nomark _)) (dt_cmp (od_eqAny R_Number_eq hr (by decide) KI.nf_Number) (de_var (i := 13)) (de_call R_l_wish hr (by decide) (by rfl) (da_cons (de_var (i := 5)) (da_cons (de_var (i := 6)) (da_cons (de_var (i := 7)) (da_cons (de_not (de_var (i := 8))) (da_cons (de_var (i := 9)) da_nil)))))) (nomark _)))))))
      (dss_one (ds_ret de_bl))
      dss_nil)
      (dss_one (ds_if (DW.pt (dw_and (dt_cmp (od_eq hr.units) (de_var (i := 5)) (de_str (by decide +kernel)) (nomark _)) (dw_and1 (dt_not (dt_tru (de_call R_l_parts_forms hr (by decide) (by rfl) (da_cons (de_var (i := 13)) (da_cons (de_var (i := 6)) (da_cons (de_var (i := 7)) (da_cons (de_var (i := 8)) (da_cons (de_var (i := 9)) da_nil)))))))))))
      (dss_one (ds_ret de_bl))
      dss_nil))))))))))))))))))) PassesOwn.never)))
      (dss_cons (ds_frz (i := 3) (ds_frz (i := 4) (ds_if (DW.pt (dw_or (dt_cmp (od_neAny R_Moments_eq hr (by decide) KI.nf_Moments KI.ne_Moments KI.ob_Moments) (de_mkN R_Moments_init W_Moments_init_1 hr (by decide) (by rfl) (da_cons (de_str (by decide +kernel)) da_nil) (fun _ => .cons (.bl _) (.cons (.str (by decide +kernel)) (.cons (.str (by decide +kernel)) (.nil))))) (de_mkKN R_Moments_init W_Moments_init_1_within_form_ends arr_app hr (by decide) (by rfl) (da_cons (de_str (by decide +kernel)) da_nil) (dk_cons de_bl (dk_cons (de_str (by decide +kernel)) (dk_cons (de_str (by decide +kernel)) dk_nil)))) (nomark _)) (dw_or1 (dt_cmp (od_ne hr.units) (de_fld (Cs := ["Moments", "Answer", "Number"]) (de_mkN R_Answer_init W_Answer_init_1 hr (by decide) (by rfl) (da_cons (de_str (by decide +kernel)) da_nil) (fun _ => .cons (.str (by decide +kernel)) (.nil))) KI.fo_Moments_Answer_Number_ends) (de_str (by decide +kernel)) (nomark _)))))
      (dss_one (ds_ret de_bl))
      dss_nil)))
      (dss_one (ds_frz (i := 3) (ds_frz (i := 4) (ds_if (DW.pt (dw_or (dt_cmp (od_ne hr.units) (de_fld (Cs := ["Moments", "Answer", "Number"]) (de_mkN R_Number_init W_Number_init_1 hr (by decide) (by rfl) (da_cons (de_str (by decide +kernel)) da_nil) (fun _ => .cons (.str (by decide +kernel)) (.nil))) KI.fo_Moments_Answer_Number_ends) (de_str (by decide +kernel)) (nomark _)) (dw_or (dt_cmp (od_eqAny R_Answer_eq hr (by decide) KI.nf_Answer) (de_mkN R_Answer_init W_Answer_init_1 hr (by decide) (by rfl) (da_cons (de_str (by decide +kernel)) da_nil) (fun _ => .cons (.str (by decide +kernel)) (.nil))) (de_mkN R_Number_init W_Number_init_1 hr (by decide) (by rfl) (da_cons (de_str (by decide +kernel)) da_nil) (fun _ => .cons (.str (by decide +kernel)) (.nil))) (nomark _)) (dw_or1 (dt_cmp (od_eqAny R_Moments_eq hr (by decide) KI.nf_Moments) (de_mkN R_Moments_init W_Moments_init_1 hr (by decide) (by rfl) (da_cons (de_str (by decide +kernel)) da_nil) (fun _ => .cons (.bl _) (.cons (.str (by decide +kernel)) (.cons (.str (by decide +kernel)) (.nil))))) (de_mkN R_Number_init W_Number_init_1 hr (by decide) (by rfl) (da_cons (de_str (by decide +kernel)) da_nil) (fun _ => .cons (.str (by decide +kernel)) (.nil))) (nomark _))))))
      (dss_one (ds_ret de_bl))
      dss_nil)))))))))) PassesOwn.never)
      (dss_one (ds_ret de_bl)))
      rfl h
end
end Spk
namespace Spk
open PySem PySem.Spec PyProof.Rows L2
/-! ### facts of every law -/
def nbO : Option Cell → Bool
  | some (.bor _) => false
  | _ => true
def oc : Option D → Cell
  | none => .no
  | some d => .val d
theorem notBor_eq (ρ : PEnv) (i : Nat) : notBor ρ i = nbO ρ[i]? := by unfold notBor nbO; rfl
theorem nbO_val (d : D) : nbO (some (.val d)) = true := rfl
theorem nbO_no : nbO (some .no) = true := rfl
theorem nbO_own (m : Mu) : nbO (some (.own m)) = true := rfl
theorem nbO_oc (x : Option D) : nbO (some (oc x)) = true := by cases x <;> rfl
theorem oc_mu (x : Option D) : (oc x).mu? = none := by cases x <;> rfl
theorem oc_some (d : D) : oc (some d) = .val d := rfl
theorem oc_none : oc none = .no := rfl
theorem oc_noX (x : Option D) : (oc x).noX = true := by cases x <;> rfl
theorem at2_0 {α : Type} (a b : α) : atI [a, b] 0 = some a := rfl
theorem at2_1 {α : Type} (a b : α) : atI [a, b] 1 = some b := rfl
theorem at3_0 {α : Type} (a b c : α) : atI [a, b, c] 0 = some a := rfl
theorem at3_1 {α : Type} (a b c : α) : atI [a, b, c] 1 = some b := rfl
theorem at3_2 {α : Type} (a b c : α) : atI [a, b, c] 2 = some c := rfl
theorem set3_0 (a b c e : D) : setG 0 e [a, b, c] = some [e, b, c] := rfl
theorem set3_1 (a b c e : D) : setG 1 e [a, b, c] = some [a, e, c] := rfl
theorem set3_2 (a b c e : D) : setG 2 e [a, b, c] = some [a, b, e] := rfl
theorem set2_0 (a b e : D) : setG 0 e [a, b] = some [e, b] := rfl
theorem set2_1 (a b e : D) : setG 1 e [a, b] = some [a, e] := rfl
abbrev prT (p : Pr) : D := .tup [.int p.1, .int p.2]
theorem lt_ii (i j : Int) : ltD (.int i) (.int j) = some (.bl (decide (i < j))) := rfl
theorem le_ii (i j : Int) : leD (.int i) (.int j) = some (.bl (decide (i ≤ j))) := rfl
theorem gt_ii (i j : Int) : gtD (.int i) (.int j) = some (.bl (decide (j < i))) := rfl
theorem ge_ii (i j : Int) : geD (.int i) (.int j) = some (.bl (decide (j ≤ i))) := rfl
theorem neg_i (i : Int) : negD (.int i) = some (.int (-i)) := rfl
theorem add_ii (i j : Int) : addD (.int i) (.int j) = some (.int (i + j)) := rfl
theorem sub_ii (i j : Int) : subD (.int i) (.int j) = some (.int (i - j)) := rfl
theorem max_ii (i j : Int) : maxD (.int i) (.int j) = some (.int (if i < j then j else i)) := rfl
theorem min_ii (i j : Int) : minD (.int i) (.int j) = some (.int (if j < i then j else i)) := rfl
theorem add_ll (xs ys : List D) : addD (.lst xs) (.lst ys) = if xs.length + ys.length ≤ sizeLine then some (.lst (xs ++ ys)) else none := rfl
theorem add_tt (xs ys : List D) : addD (.tup xs) (.tup ys) = if xs.length + ys.length ≤ sizeLine then some (.tup (xs ++ ys)) else none := rfl
theorem ix_l (ds : List D) (i : Int) : ixD (.lst ds) (.int i) = atI ds i := rfl
theorem ix_t (ds : List D) (i : Int) : ixD (.tup ds) (.int i) = atI ds i := rfl
theorem len_l (ds : List D) : lenD (.lst ds) = some (.int ds.length) := rfl
theorem len_t (ds : List D) : lenD (.tup ds) = some (.int ds.length) := rfl
theorem len_scr (ns : List Int) : lenD (.scr ns) = some (.int ns.length) := rfl
theorem ix_pr0 (p : Pr) : ixD (prT p) (.int 0) = some (.int p.1) := rfl
theorem ix_pr1 (p : Pr) : ixD (prT p) (.int 1) = some (.int p.2) := rfl
theorem isi_pr (tb : List (String × Bool)) (ow : List (Str × Bool)) (p : Pr) : isiD tb ow (prT p) = tb.lookup "tuple" := rfl
theorem gTup_pr (gs : List D → PEnv → Option PEnv) (p : Pr) (ρ : PEnv) : gTupD 2 gs (prT p) ρ = gs [.int p.1, .int p.2] ρ := rfl
theorem eqv_i (i j : Int) : eqv (.int i) (.int j) = decide (i = j) := by
  unfold eqv
  rw [Bool.eq_iff_iff]
  simp [D.py, PyData.eqv]
theorem eqv_s (x y : Str) : eqv (.str x) (.str y) = decide (x = y) := by
  unfold eqv
  rw [Bool.eq_iff_iff]
  simp [D.py, PyData.eqv]
theorem eq_ii (i j : Int) : eqD (.int i) (.int j) = some (.bl (decide (i = j))) := by
  unfold eqD
  rw [if_pos ⟨rfl, rfl⟩, eqv_i]
theorem ne_ii (i j : Int) : neD (.int i) (.int j) = some (.bl (!decide (i = j))) := by
  unfold neD
  rw [if_pos ⟨rfl, rfl⟩, eqv_i]
theorem eq_ss (x y : Str) : eqD (.str x) (.str y) = some (.bl (decide (x = y))) := by
  unfold eqD
  rw [if_pos ⟨rfl, rfl⟩, eqv_s]
theorem ne_ss (x y : Str) : neD (.str x) (.str y) = some (.bl (!decide (x = y))) := by
  unfold neD
  rw [if_pos ⟨rfl, rfl⟩, eqv_s]
theorem eq_bb (x y : Bool) : eqD (.bl x) (.bl y) = some (.bl (decide (x = y))) := by
  unfold eqD
  rw [if_pos ⟨rfl, rfl⟩]
  cases x <;> cases y <;> simp [eqv, D.py, PyData.eqv]
theorem ne_bb (x y : Bool) : neD (.bl x) (.bl y) = some (.bl (!decide (x = y))) := by
  unfold neD
  rw [if_pos ⟨rfl, rfl⟩]
  cases x <;> cases y <;> simp [eqv, D.py, PyData.eqv]
theorem lcD_enc {β : Type} {vs : List Nat} {g : TGf} {c : BX} {f : EX} {ρ : PEnv} (enc : β → D) (T : β → Bool) (Y : β → D) : ∀ bs : List β, (∀ b ∈ bs, ∃ ρ1 ρ2, g (enc b) (wipeE ρ vs) = some ρ1 ∧ c ρ1 = .ok (T b) ρ2 ∧ (T b = true → ∃ ρ3, f ρ2 = .ok (Y b) ρ3 ∧ backE ρ3 ρ vs = ρ) ∧ (T b = false → backE ρ2 ρ vs = ρ)) →
    lcD vs g c f (bs.map enc) ρ = .ok ((bs.filter T).map Y) ρ
  | [], _ => rfl
  | b :: bs, h => by
    obtain ⟨ρ1, ρ2, h1, h2, h3, h4⟩ := h b List.mem_cons_self
    have ih := lcD_enc enc T Y bs fun x hx => h x (List.mem_cons_of_mem _ hx)
    rw [List.map_cons]
    unfold lcD
    rw [h1]
    simp only [h2, Rs.nx_ok, Rs.bind_ok]
    cases e : T b with
    | true =>
      obtain ⟨ρ3, h5, h6⟩ := h3 e
      simp only [if_true, h5, Rs.nx_ok, Rs.bind_ok, h6, ih, List.filter_cons_of_pos e, List.map_cons]
    | false =>
      have := h4 e
      simp [this, ih, List.filter_cons_of_neg (by simp [e] : ¬ T b = true)]
theorem lcD_all {β : Type} {vs : List Nat} {g : TGf} {f : EX} {ρ : PEnv} (enc : β → D) (Y : β → D) (bs : List β) (h : ∀ b ∈ bs, ∃ ρ1 ρ3, g (enc b) (wipeE ρ vs) = some ρ1 ∧ f ρ1 = .ok (Y b) ρ3 ∧ backE ρ3 ρ vs = ρ) :
    lcD vs g bYes f (bs.map enc) ρ = .ok (bs.map Y) ρ := by
  have := lcD_enc (vs := vs) (g := g) (c := bYes) (f := f) (ρ := ρ) enc (fun _ => true) Y bs fun b hb => by
    obtain ⟨ρ1, ρ3, h1, h2, h3⟩ := h b hb
    exact ⟨ρ1, ρ1, h1, rfl, fun _ => ⟨ρ3, h2, h3⟩, fun e => nomatch e⟩
  rwa [List.filter_eq_self.mpr (fun _ _ => rfl)] at this
theorem mul_ok {i j : Int} (hi : i.natAbs < 2 ^ 200) (hj : j.natAbs < 2 ^ 200) : mulD (.int i) (.int j) = some (.int (i * j)) := by
  have h1 : i.natAbs.log2 < 1000 := by
    rcases Nat.eq_zero_or_pos i.natAbs with h | h
    · rw [h]; decide
    · exact Nat.lt_trans ((Nat.log2_lt (by omega)).mpr hi) (by decide)
  have h2 : j.natAbs.log2 < 1000 := by
    rcases Nat.eq_zero_or_pos j.natAbs with h | h
    · rw [h]; decide
    · exact Nat.lt_trans ((Nat.log2_lt (by omega)).mpr hj) (by decide)
  show Option.map D.int (mulG i j) = _
  unfold mulG
  rw [if_pos (by omega)]; rfl
theorem div_ok {i j : Int} (h0 : 0 < j) (hj : j.natAbs < 2 ^ 200) : divD (.int i) (.int j) = some (.int (i / j)) := by
  have h2 : j.natAbs.log2 < 1000 := by
    exact Nat.lt_trans ((Nat.log2_lt (by omega)).mpr hj) (by decide)
  show Option.map D.int (divG i j) = _
  unfold divG
  rw [if_pos ⟨h0, by omega⟩]; rfl
theorem mod_ok {i j : Int} (h0 : 0 < j) : modD (.int i) (.int j) = some (.int (i % j)) := by
  show Option.map D.int (modG i j) = _
  unfold modG
  rw [if_pos h0]; rfl
theorem int_i (i : Int) : intD (.int i) = some (.int i) := rfl
theorem pow6 : powD (.int 10) (.int 6) = some (.int 1000000) := rfl
theorem pow15 : powD (.int 10) (.int 15) = some (.int 1000000000000000) := rfl
theorem pow18 : powD (.int 10) (.int 18) = some (.int 1000000000000000000) := rfl
theorem pow20 : powD (.int 10) (.int 20) = some (.int 100000000000000000000) := rfl
theorem pow30 : powD (.int 10) (.int 30) = some (.int 1000000000000000000000000000000) := rfl
theorem pow31 : powD (.int 10) (.int 31) = some (.int 10000000000000000000000000000000) := rfl
theorem abs_i (i : Int) : absD (.int i) = some (.int (if i < 0 then -i else i)) := rfl
theorem isN_int (i : Int) (n : Bool) : isNonD n (.int i) .non = some (.bl n) := by cases n <;> rfl
theorem isN_non (n : Bool) : isNonD n .non .non = some (.bl !n) := by cases n <;> rfl
theorem rng1_ok {f : EX} {ρ ρ' : PEnv} {j : Int} (h : f ρ = .ok (.int j) ρ') (h1 : -(2 ^ 62) ≤ j) (h2 : j < 2 ^ 62) : fRng1 f ρ = .ok (rngD 0 j.toNat) ρ' := by
  unfold fRng1
  rw [h]
  exact if_pos ⟨h1, h2⟩
theorem lc_ok {it : PEnv → Rs (List D)} {vs : List Nat} {g : TGf} {c : BX} {f : EX} {ρ ρ1 : PEnv} {ds : List D} {r : Rs (List D)} (h : it ρ = .ok ds ρ1) (hn : noMut ρ1 vs = true) (hl : ds.length ≤ 16777216) (hk : lcD vs g c f ds ρ1 = r) : fLc it vs g c f ρ = r := by
  unfold fLc
  rw [h]
  exact (if_pos ⟨hn, hl⟩).trans hk
/-- an item -/
theorem at_mem {ds : List D} {r : Int} (h0 : 0 ≤ r) (h1 : r < ds.length) : ∃ d, d ∈ ds ∧ atI ds r = some d := by
  obtain ⟨k, rfl⟩ : ∃ k : Nat, r = k := ⟨r.toNat, by omega⟩
  have hk : k < ds.length := by omega
  refine ⟨ds[k], List.getElem_mem hk, ?_⟩
  unfold atI ixN
  rw [if_pos h0, if_pos h1]
  simp [List.getElem?_eq_getElem hk]
theorem at_nat {α : Type} {ds : List α} {k : Nat} : atI ds (k : Int) = ds[k]? := by
  unfold atI ixN
  rw [if_pos (by omega)]
  by_cases h : (k : Int) < ds.length
  · rw [if_pos h]; rfl
  · rw [if_neg h, List.getElem?_eq_none (by omega)]; rfl
/-! ### how a run ends -/
/-- nx: it goes on; rt: it gives back -/
def wS (N : PEnv → Prop) (T : D → PEnv → Prop) : Sr → Prop
  | .nx ρ => N ρ
  | .rt d ρ => T d ρ
  | _ => False
theorem wS_seq {N : PEnv → Prop} {T : D → PEnv → Prop} {f g : SX} {ρ : PEnv} (h : wS (fun ρ' => wS N T (g ρ')) T (f ρ)) : wS N T (sSeq f g ρ) := by
  unfold sSeq
  cases hf : f ρ with
  | nx ρ' => rw [hf] at h; exact h
  | rt d ρ' => rw [hf] at h; exact h
  | rf d ρ' => rw [hf] at h; exact h
  | bk ρ' => rw [hf] at h; exact h
  | ct ρ' => rw [hf] at h; exact h
  | exc c x d ρ' => rw [hf] at h; exact h
  | bad => rw [hf] at h; exact h
/-- the next statement goes on -/
theorem go {N : PEnv → Prop} {T : D → PEnv → Prop} {f g : SX} {ρ ρ' : PEnv} (h : f ρ = .nx ρ') (k : wS N T (g ρ')) : wS N T (sSeq f g ρ) := wS_seq (by rw [h]; exact k)
theorem if_yes {t : BX} {f g : SX} {ρ ρ' : PEnv} (h : t ρ = .ok true ρ') : sIf t f g ρ = f ρ' := by
  unfold sIf
  rw [h]; rfl
theorem if_no {t : BX} {f g : SX} {ρ ρ' : PEnv} (h : t ρ = .ok false ρ') : sIf t f g ρ = g ρ' := by
  unfold sIf
  rw [h]; rfl
theorem fn_of {cs : List Cell} {m : Nat} {f : SX} {P : D → List Cell → Prop} (h : wS (fun ρ => ∃ es, finC cs ρ = some es ∧ P .non es) (fun d ρ => ∃ es, finC cs ρ = some es ∧ P d es) (f (cs ++ List.replicate (m - cs.length) .no))) : ∃ d es, fnN (fnB m f) cs = .ok d es ∧ P d es := by
  unfold fnN fnB
  cases hf : f (cs ++ List.replicate (m - cs.length) .no) with
  | nx ρ =>
    rw [hf] at h
    obtain ⟨es, h1, h2⟩ := h
    exact ⟨.non, es, by simp [h1], h2⟩
  | rt d ρ =>
    rw [hf] at h
    obtain ⟨es, h1, h2⟩ := h
    exact ⟨d, es, by simp [h1], h2⟩
  | _ => rw [hf] at h; exact h.elim
theorem fn_rt {cs es : List Cell} {m : Nat} {f : SX} {d : D} {ρ : PEnv} (h : f (cs ++ List.replicate (m - cs.length) .no) = .rt d ρ) (hf : finC cs ρ = some es) : fnN (fnB m f) cs = .ok d es := by
  unfold fnN fnB
  simp only [h, hf, Rs.nx_ok]
/-- a loop whose turns keep a fact -/
theorem loop_c {g : TGf} {body : SX} (P : D → Prop) (Q : PEnv → Prop) (hb : ∀ d ρ, P d → Q ρ → ∃ ρ1 ρ2, g d ρ = some ρ1 ∧ body ρ1 = .nx ρ2 ∧ Q ρ2) : ∀ (ds : List D) (ρ : PEnv), (∀ d ∈ ds, P d) → Q ρ → ∃ ρ', loopD g body ds ρ = .nx ρ' ∧ Q ρ'
  | [], ρ, _, h => ⟨ρ, rfl, h⟩
  | d :: ds, ρ, hp, h => by
    obtain ⟨ρ1, ρ2, e1, e2, q⟩ := hb d ρ (hp d List.mem_cons_self) h
    obtain ⟨ρ', e3, q'⟩ := loop_c P Q hb ds ρ2 (fun x hx => hp x (List.mem_cons_of_mem _ hx)) q
    refine ⟨ρ', ?_, q'⟩
    unfold loopD
    rw [e1]
    simp only [e2, e3]
theorem for_ok {it : PEnv → Rs (List D)} {g : TGf} {body : SX} {ρ ρ1 : PEnv} {ds : List D} {r : Sr} (h : it ρ = .ok ds ρ1) (k : loopD g body ds ρ1 = r) : sFor it g body ρ = r := by
  unfold sFor
  rw [h]; exact k
theorem rngD_mem {d : D} {n : Nat} (h : d ∈ rngD 0 n) : ∃ i : Nat, i < n ∧ d = .int i := by
  unfold rngD at h
  obtain ⟨k, hk, rfl⟩ := List.mem_map.mp h
  exact ⟨k, List.mem_range.mp hk, by simp⟩
theorem seq_nx {f g : SX} {ρ ρ1 : PEnv} (h : f ρ = .nx ρ1) : sSeq f g ρ = g ρ1 := by
  unfold sSeq
  rw [h]; rfl
/-- made of values alone -/
theorem mk_vals {n : Nat} {fn : List Cell → Rs D} {c : Str} {ds dfl : List D} {ks : List Str} {es : List D} (hn : ds.length + 1 + dfl.length = n) (h : fn (.bor (.obj c [] []) :: (ds ++ dfl).map Cell.val) = .ok .non (.bor (.obj c ks es) :: (ds ++ dfl).map Cell.val)) (ρ : PEnv) : mkE n fn c dfl (ds.map Arg.val) ρ = .ok (.ins c ks es) ρ := by
  have hs : ∀ ds : List D, sls (ds.map Arg.val) = [] := fun ds => by induction ds with | nil => rfl | cons d r ih => simpa [sls] using ih
  have hc : ∀ (ds : List D) (ρ : PEnv), cells ρ (ds.map Arg.val) = some (ds.map Cell.val) := fun ds ρ => by induction ds with | nil => rfl | cons d r ih => simp [cells, Arg.cell, ih]
  have hw : ∀ (ds : List D) (r : List D) (ρ : PEnv), wb (ds.map Arg.val) ((ds ++ r).map Cell.val) ρ = some ρ := fun ds r ρ => by induction ds with | nil => rfl | cons d t ih => simpa [wb] using ih
  unfold mkE appF
  rw [if_pos ⟨by simp; omega, by simp [sls, hs]⟩]
  have e : cells (ρ ++ [Cell.own (.obj c [] [])]) (.sl ρ.length :: ds.map Arg.val) = some (.bor (.obj c [] []) :: ds.map Cell.val) := by
    simp [cells, Arg.cell, hc, Cell.mu?]
  have e2 : (Cell.bor (.obj c [] []) :: ds.map Cell.val) ++ dfl.map Cell.val = .bor (.obj c [] []) :: (ds ++ dfl).map Cell.val := by simp
  simp only [e, e2, h]
  have e3 : wb (.sl ρ.length :: ds.map Arg.val) (Cell.bor (.obj c ks es) :: (ds ++ dfl).map Cell.val) (ρ ++ [Cell.own (.obj c [] [])]) = some (ρ ++ [.own (.obj c ks es)]) := by
    simp only [wb]
    simpa [Cell.put] using hw ds dfl (ρ ++ [.own (.obj c ks es)])
  rw [e3]
  simp
end Spk
namespace Spk
open PySem PySem.Spec PyProof.Rows L2
/-! ### draws of the laws of stage 2 -/
def Bg (m : Mu) : Prop := ∃ x y : Int, m = .lst [.int x, .int y] ∧ 0 ≤ x ∧ 0 ≤ y ∧ y < 2147483629
theorem take_ok {m : Mu} {k : Int} (b : Bg m) (h0 : 0 < k) (hk : k.natAbs < 2 ^ 200) :
    ∃ r m', fn_l_take [.bor m, .val (.int k)] = .ok (.int r) [.bor m', .val (.int k)] ∧ 0 ≤ r ∧ r < k ∧ Bg m' := by
  obtain ⟨x, y, rfl, x0, y0, y1⟩ := b
  by_cases c : 0 < x
  · refine ⟨x % k, .lst [.int (x / k), .int y], ?_, Int.emod_nonneg _ (by omega), Int.emod_lt_of_pos _ h0, _, _, rfl, Int.ediv_nonneg x0 (by omega), y0, y1⟩
    unfold fn_l_take sem_l_take
    simp [fnN, fnB, fnBF, sSeq, sRet, sRetF, sRetN, sIf, sSet, sNil, sExpr, sOwn, sPar, sAsg, sMut, sApp, sPut, eVar, eC, eOp, eCall, eAnd, eOr, eNot, eIf, eTup, eFr, fLst, Opd.ev, evs, Arg.dat, dats, vals?, op1, op2, appF, cells, Arg.cell, sls, wb, finC, eChain, bAnd, bOr, bNot, bBl, bTru, truth, lt_ii, le_ii, gt_ii, ge_ii, neg_i, add_ii, sub_ii, max_ii, min_ii, add_ll, add_tt, sizeLine_eq, gTupD, gsCons, gsNil, gSet, notBor_eq, nbO_val, nbO_no, nbO_own, nbO_oc, ix_l, ix_t, Cell.mu?, Cell.lst?, Mu.lst?, len_l, len_t, eIsi, isi_pr, isiD, tyS, List.lookup, gTup_pr, ix_pr0, ix_pr1, at2_0, at2_1, D.fit, D.pure, pures, D.py, pys, PyData.depth, PyData.depthAll, at3_0, at3_1, at3_2, set3_0, set3_1, set3_2, set2_0, set2_1, eq_ii, ne_ii, eq_ss, ne_ss, eq_bb, ne_bb, int_i, abs_i, Cell.put, putAt, len_scr, isN_int, isN_non, oc_mu, oc_noX, nbO_oc, sTry, trS, exS, Sr.out, dropX, noExn, Cell.noX, eXf, eXis, sRaiseB, eMethN, eMethX, noKey, isIns, eConI, eMkKN, eMkKX, eMkX, eMk, eFld, fldD, sFor, fSeq, seqD, eSFld, sFldS, putK, pow6, pow15, pow18, pow20, pow30, pow31, eOpX, eOpN, gSqD, sParF, sParE, eCallK, sIns, eJs, joinE, FPart.ev, fmtD, eJoin, gPl, gNil, gSeq, gYield, gFor, fMethN, fMethX, onlyX, eMethKX, eMethKN, eCallKPX, eCallKPN, fMethFX, fMethKX, fMethKN, t_l_take_1, c, mod_ok h0, div_ok h0 hk]
  · have m1 := mul_ok (i := y) (j := 48271) (by omega) (by decide)
    have d1 := mod_ok (i := y * 48271 + 70001) (j := 2147483629) (by decide)
    have c2 : (y * 48271 + 70001) % 2147483629 < 2147483629 := Int.emod_lt_of_pos _ (by decide)
    have c3 : 0 ≤ (y * 48271 + 70001) % 2147483629 := Int.emod_nonneg _ (by decide)
    generalize (y * 48271 + 70001) % 2147483629 = u at *
    have d2 := div_ok (i := u) (j := 11) (by decide) (by decide)
    have m2 := mul_ok (i := u / 11) (j := 39373) (by omega) (by decide)
    have d3 := mod_ok (i := u / 11 * 39373) (j := 2147483647) (by decide)
    have d4 := div_ok (i := u / 11 * 39373 % 2147483647) (j := 64) (by decide) (by decide)
    refine ⟨u / 11 * 39373 % 2147483647 / 64 % k, .lst [.int x, .int u], ?_, Int.emod_nonneg _ (by omega), Int.emod_lt_of_pos _ h0, _, _, rfl, x0, c3, c2⟩
    unfold fn_l_take sem_l_take
    simp [fnN, fnB, fnBF, sSeq, sRet, sRetF, sRetN, sIf, sSet, sNil, sExpr, sOwn, sPar, sAsg, sMut, sApp, sPut, eVar, eC, eOp, eCall, eAnd, eOr, eNot, eIf, eTup, eFr, fLst, Opd.ev, evs, Arg.dat, dats, vals?, op1, op2, appF, cells, Arg.cell, sls, wb, finC, eChain, bAnd, bOr, bNot, bBl, bTru, truth, lt_ii, le_ii, gt_ii, ge_ii, neg_i, add_ii, sub_ii, max_ii, min_ii, add_ll, add_tt, sizeLine_eq, gTupD, gsCons, gsNil, gSet, notBor_eq, nbO_val, nbO_no, nbO_own, nbO_oc, ix_l, ix_t, Cell.mu?, Cell.lst?, Mu.lst?, len_l, len_t, eIsi, isi_pr, isiD, tyS, List.lookup, gTup_pr, ix_pr0, ix_pr1, at2_0, at2_1, D.fit, D.pure, pures, D.py, pys, PyData.depth, PyData.depthAll, at3_0, at3_1, at3_2, set3_0, set3_1, set3_2, set2_0, set2_1, eq_ii, ne_ii, eq_ss, ne_ss, eq_bb, ne_bb, int_i, abs_i, Cell.put, putAt, len_scr, isN_int, isN_non, oc_mu, oc_noX, nbO_oc, sTry, trS, exS, Sr.out, dropX, noExn, Cell.noX, eXf, eXis, sRaiseB, eMethN, eMethX, noKey, isIns, eConI, eMkKN, eMkKX, eMkX, eMk, eFld, fldD, sFor, fSeq, seqD, eSFld, sFldS, putK, pow6, pow15, pow18, pow20, pow30, pow31, eOpX, eOpN, gSqD, sParF, sParE, eCallK, sIns, eJs, joinE, FPart.ev, fmtD, eJoin, gPl, gNil, gSeq, gYield, gFor, fMethN, fMethX, onlyX, eMethKX, eMethKN, eCallKPX, eCallKPN, fMethFX, fMethKX, fMethKN, t_l_take_1, t_l_take_2, t_l_take_3, c, mod_ok h0, m1, d1, d2, m2, d3, d4]
theorem of_ok {m : Mu} {ds : List D} (b : Bg m) (h0 : 0 < ds.length) (hk : ds.length ≤ 100000) :
    ∃ d m', d ∈ ds ∧ fn_l_of [.bor m, .val (.lst ds)] = .ok d [.bor m', .val (.lst ds)] ∧ Bg m' := by
  obtain ⟨r, m', e, r0, r1, b'⟩ := take_ok (k := ds.length) b (by omega) (by omega)
  obtain ⟨d, hd, ed⟩ := at_mem r0 r1
  refine ⟨d, m', hd, ?_, b'⟩
  unfold fn_l_of sem_l_of
  simp [fnN, fnB, fnBF, sSeq, sRet, sRetF, sRetN, sIf, sSet, sNil, sExpr, sOwn, sPar, sAsg, sMut, sApp, sPut, eVar, eC, eOp, eCall, eAnd, eOr, eNot, eIf, eTup, eFr, fLst, Opd.ev, evs, Arg.dat, dats, vals?, op1, op2, appF, cells, Arg.cell, sls, wb, finC, eChain, bAnd, bOr, bNot, bBl, bTru, truth, lt_ii, le_ii, gt_ii, ge_ii, neg_i, add_ii, sub_ii, max_ii, min_ii, add_ll, add_tt, sizeLine_eq, gTupD, gsCons, gsNil, gSet, notBor_eq, nbO_val, nbO_no, nbO_own, nbO_oc, ix_l, ix_t, Cell.mu?, Cell.lst?, Mu.lst?, len_l, len_t, eIsi, isi_pr, isiD, tyS, List.lookup, gTup_pr, ix_pr0, ix_pr1, at2_0, at2_1, D.fit, D.pure, pures, D.py, pys, PyData.depth, PyData.depthAll, at3_0, at3_1, at3_2, set3_0, set3_1, set3_2, set2_0, set2_1, eq_ii, ne_ii, eq_ss, ne_ss, eq_bb, ne_bb, int_i, abs_i, Cell.put, putAt, len_scr, isN_int, isN_non, oc_mu, oc_noX, nbO_oc, sTry, trS, exS, Sr.out, dropX, noExn, Cell.noX, eXf, eXis, sRaiseB, eMethN, eMethX, noKey, isIns, eConI, eMkKN, eMkKX, eMkX, eMk, eFld, fldD, sFor, fSeq, seqD, eSFld, sFldS, putK, pow6, pow15, pow18, pow20, pow30, pow31, eOpX, eOpN, gSqD, sParF, sParE, eCallK, sIns, eJs, joinE, FPart.ev, fmtD, eJoin, gPl, gNil, gSeq, gYield, gFor, fMethN, fMethX, onlyX, eMethKX, eMethKN, eCallKPX, eCallKPN, fMethFX, fMethKX, fMethKN, t_l_of_1, e, ed]
theorem enu_at {ds : List D} {d : D} (h : d ∈ enuD ds) : ∃ (i : Nat) (x : D), d = .tup [.int i, x] ∧ ds[i]? = some x := by
  obtain ⟨q, hq, rfl⟩ := List.mem_map.mp h
  exact ⟨q.2, q.1, rfl, List.mem_zipIdx_iff_getElem?.mp hq⟩
def BE (ns : List Int) (i : Nat) (cl : Int) (M : Int) (o4 o5 : Option D) : PEnv := [.val (.scr ns), .val (.int i), .val (.int cl), .val (.int M), oc o4, oc o5]
theorem bag_ok {ns : List Int} {i : Nat} (hi : i ≤ 63) (hn : ns.length ≤ 63) : ∃ ds, fn_l_bag [.val (.scr ns), .val (.int i)] = .ok ds [.val (.scr ns), .val (.int i)] ∧ Bg (.lst ds) := by
  obtain ⟨cl, s1⟩ : ∃ cl : Int, t_l_bag_1 [.val (.scr ns), .val (.int i), .no, .no, .no, .no] = .nx [.val (.scr ns), .val (.int i), .val (.int cl), .no, .no, .no] := by
    by_cases c : i < ns.length
    · have e : ixD (.scr ns) (.int i) = some (.int ns[i]) := by
        show (atI ns (i : Int)).map D.int = _
        rw [at_nat, List.getElem?_eq_getElem c]; rfl
      exact ⟨ns[i], by simp [fnN, fnB, fnBF, sSeq, sRet, sRetF, sRetN, sIf, sSet, sNil, sExpr, sOwn, sPar, sAsg, sMut, sApp, sPut, eVar, eC, eOp, eCall, eAnd, eOr, eNot, eIf, eTup, eFr, fLst, Opd.ev, evs, Arg.dat, dats, vals?, op1, op2, appF, cells, Arg.cell, sls, wb, finC, eChain, bAnd, bOr, bNot, bBl, bTru, truth, lt_ii, le_ii, gt_ii, ge_ii, neg_i, add_ii, sub_ii, max_ii, min_ii, add_ll, add_tt, sizeLine_eq, gTupD, gsCons, gsNil, gSet, notBor_eq, nbO_val, nbO_no, nbO_own, nbO_oc, ix_l, ix_t, Cell.mu?, Cell.lst?, Mu.lst?, len_l, len_t, eIsi, isi_pr, isiD, tyS, List.lookup, gTup_pr, ix_pr0, ix_pr1, at2_0, at2_1, D.fit, D.pure, pures, D.py, pys, PyData.depth, PyData.depthAll, at3_0, at3_1, at3_2, set3_0, set3_1, set3_2, set2_0, set2_1, eq_ii, ne_ii, eq_ss, ne_ss, eq_bb, ne_bb, int_i, abs_i, Cell.put, putAt, len_scr, isN_int, isN_non, oc_mu, oc_noX, nbO_oc, sTry, trS, exS, Sr.out, dropX, noExn, Cell.noX, eXf, eXis, sRaiseB, eMethN, eMethX, noKey, isIns, eConI, eMkKN, eMkKX, eMkX, eMk, eFld, fldD, sFor, fSeq, seqD, eSFld, sFldS, putK, pow6, pow15, pow18, pow20, pow30, pow31, eOpX, eOpN, gSqD, sParF, sParE, eCallK, sIns, eJs, joinE, FPart.ev, fmtD, eJoin, gPl, gNil, gSeq, gYield, gFor, fMethN, fMethX, onlyX, eMethKX, eMethKN, eCallKPX, eCallKPN, fMethFX, fMethKX, fMethKN, t_l_bag_1, c, e]⟩
    · exact ⟨0, by simp [fnN, fnB, fnBF, sSeq, sRet, sRetF, sRetN, sIf, sSet, sNil, sExpr, sOwn, sPar, sAsg, sMut, sApp, sPut, eVar, eC, eOp, eCall, eAnd, eOr, eNot, eIf, eTup, eFr, fLst, Opd.ev, evs, Arg.dat, dats, vals?, op1, op2, appF, cells, Arg.cell, sls, wb, finC, eChain, bAnd, bOr, bNot, bBl, bTru, truth, lt_ii, le_ii, gt_ii, ge_ii, neg_i, add_ii, sub_ii, max_ii, min_ii, add_ll, add_tt, sizeLine_eq, gTupD, gsCons, gsNil, gSet, notBor_eq, nbO_val, nbO_no, nbO_own, nbO_oc, ix_l, ix_t, Cell.mu?, Cell.lst?, Mu.lst?, len_l, len_t, eIsi, isi_pr, isiD, tyS, List.lookup, gTup_pr, ix_pr0, ix_pr1, at2_0, at2_1, D.fit, D.pure, pures, D.py, pys, PyData.depth, PyData.depthAll, at3_0, at3_1, at3_2, set3_0, set3_1, set3_2, set2_0, set2_1, eq_ii, ne_ii, eq_ss, ne_ss, eq_bb, ne_bb, int_i, abs_i, Cell.put, putAt, len_scr, isN_int, isN_non, oc_mu, oc_noX, nbO_oc, sTry, trS, exS, Sr.out, dropX, noExn, Cell.noX, eXf, eXis, sRaiseB, eMethN, eMethX, noKey, isIns, eConI, eMkKN, eMkKX, eMkX, eMk, eFld, fldD, sFor, fSeq, seqD, eSFld, sFldS, putK, pow6, pow15, pow18, pow20, pow30, pow31, eOpX, eOpN, gSqD, sParF, sParE, eCallK, sIns, eJs, joinE, FPart.ev, fmtD, eJoin, gPl, gNil, gSeq, gYield, gFor, fMethN, fMethX, onlyX, eMethKX, eMethKN, eCallKPX, eCallKPN, fMethFX, fMethKX, fMethKN, t_l_bag_1, c]⟩
  have m1 := mul_ok (i := 5227) (j := (i : Int)) (by decide) (by omega)
  have s2 : t_l_bag_2 [.val (.scr ns), .val (.int i), .val (.int cl), .no, .no, .no] = .nx (BE ns i cl (5227 * i + 977) none none) := by
    simp [fnN, fnB, fnBF, sSeq, sRet, sRetF, sRetN, sIf, sSet, sNil, sExpr, sOwn, sPar, sAsg, sMut, sApp, sPut, eVar, eC, eOp, eCall, eAnd, eOr, eNot, eIf, eTup, eFr, fLst, Opd.ev, evs, Arg.dat, dats, vals?, op1, op2, appF, cells, Arg.cell, sls, wb, finC, eChain, bAnd, bOr, bNot, bBl, bTru, truth, lt_ii, le_ii, gt_ii, ge_ii, neg_i, add_ii, sub_ii, max_ii, min_ii, add_ll, add_tt, sizeLine_eq, gTupD, gsCons, gsNil, gSet, notBor_eq, nbO_val, nbO_no, nbO_own, nbO_oc, ix_l, ix_t, Cell.mu?, Cell.lst?, Mu.lst?, len_l, len_t, eIsi, isi_pr, isiD, tyS, List.lookup, gTup_pr, ix_pr0, ix_pr1, at2_0, at2_1, D.fit, D.pure, pures, D.py, pys, PyData.depth, PyData.depthAll, at3_0, at3_1, at3_2, set3_0, set3_1, set3_2, set2_0, set2_1, eq_ii, ne_ii, eq_ss, ne_ss, eq_bb, ne_bb, int_i, abs_i, Cell.put, putAt, len_scr, isN_int, isN_non, oc_mu, oc_noX, nbO_oc, sTry, trS, exS, Sr.out, dropX, noExn, Cell.noX, eXf, eXis, sRaiseB, eMethN, eMethX, noKey, isIns, eConI, eMkKN, eMkKX, eMkX, eMk, eFld, fldD, sFor, fSeq, seqD, eSFld, sFldS, putK, pow6, pow15, pow18, pow20, pow30, pow31, eOpX, eOpN, gSqD, sParF, sParE, eCallK, sIns, eJs, joinE, FPart.ev, fmtD, eJoin, gPl, gNil, gSeq, gYield, gFor, fMethN, fMethX, onlyX, eMethKX, eMethKN, eCallKPX, eCallKPN, fMethFX, fMethKX, fMethKN, t_l_bag_2, BE, oc_none, m1]
  obtain ⟨xs, it, hx, hl⟩ : ∃ xs : List Int, fEnu (eSl (.ex (eVar 0)) none (some (eC (.int 60)))) (BE ns i cl (5227 * i + 977) none none) = .ok (enuD (xs.map D.int)) (BE ns i cl (5227 * i + 977) none none) ∧ True ∧ xs.length ≤ 63 := by
    refine ⟨(ns.drop (HT.sIx ns.length 0 none)).take (HT.sIx ns.length ns.length (some 60) - HT.sIx ns.length 0 none), by simp [fnN, fnB, fnBF, sSeq, sRet, sRetF, sRetN, sIf, sSet, sNil, sExpr, sOwn, sPar, sAsg, sMut, sApp, sPut, eVar, eC, eOp, eCall, eAnd, eOr, eNot, eIf, eTup, eFr, fLst, Opd.ev, evs, Arg.dat, dats, vals?, op1, op2, appF, cells, Arg.cell, sls, wb, finC, eChain, bAnd, bOr, bNot, bBl, bTru, truth, lt_ii, le_ii, gt_ii, ge_ii, neg_i, add_ii, sub_ii, max_ii, min_ii, add_ll, add_tt, sizeLine_eq, gTupD, gsCons, gsNil, gSet, notBor_eq, nbO_val, nbO_no, nbO_own, nbO_oc, ix_l, ix_t, Cell.mu?, Cell.lst?, Mu.lst?, len_l, len_t, eIsi, isi_pr, isiD, tyS, List.lookup, gTup_pr, ix_pr0, ix_pr1, at2_0, at2_1, D.fit, D.pure, pures, D.py, pys, PyData.depth, PyData.depthAll, at3_0, at3_1, at3_2, set3_0, set3_1, set3_2, set2_0, set2_1, eq_ii, ne_ii, eq_ss, ne_ss, eq_bb, ne_bb, int_i, abs_i, Cell.put, putAt, len_scr, isN_int, isN_non, oc_mu, oc_noX, nbO_oc, sTry, trS, exS, Sr.out, dropX, noExn, Cell.noX, eXf, eXis, sRaiseB, eMethN, eMethX, noKey, isIns, eConI, eMkKN, eMkKX, eMkX, eMk, eFld, fldD, sFor, fSeq, seqD, eSFld, sFldS, putK, pow6, pow15, pow18, pow20, pow30, pow31, eOpX, eOpN, gSqD, sParF, sParE, eCallK, sIns, eJs, joinE, FPart.ev, fmtD, eJoin, gPl, gNil, gSeq, gYield, gFor, fMethN, fMethX, onlyX, eMethKX, eMethKN, eCallKPX, eCallKPN, fMethFX, fMethKX, fMethKN, fEnu, eSl, Bd.ev, slD, BE], trivial, ?_⟩
    rw [List.length_take, List.length_drop]
    omega
  obtain ⟨ρ', lp, M, o4, o5, rfl, M0, M1⟩ := loop_c (g := gTupD 2 (gsCons (gSet 4) (gsCons (gSet 5) gsNil))) (body := b_l_bag_1) (fun d => ∃ (k : Nat) (v : Int), d = .tup [.int k, .int v] ∧ k < 63) (fun ρ => ∃ (M : Int) (o4 o5 : Option D), ρ = BE ns i cl M o4 o5 ∧ 0 ≤ M ∧ M < 2147483399) (by
      rintro d ρ ⟨k, v, rfl, hk⟩ ⟨M, o4, o5, rfl, M0, M1⟩
      have q1 := mul_ok (i := M) (j := 40692) (by omega) (by decide)
      have q2 := mod_ok (i := v) (j := 2147483563) (by decide)
      have q3 := mul_ok (i := 211) (j := (k : Int)) (by decide) (by omega)
      have q4 := mod_ok (i := M * 40692 + v % 2147483563 + 211 * k + 5) (j := 2147483399) (by decide)
      exact ⟨BE ns i cl M (some (.int k)) (some (.int v)), BE ns i cl ((M * 40692 + v % 2147483563 + 211 * k + 5) % 2147483399) (some (.int k)) (some (.int v)), by simp [fnN, fnB, fnBF, sSeq, sRet, sRetF, sRetN, sIf, sSet, sNil, sExpr, sOwn, sPar, sAsg, sMut, sApp, sPut, eVar, eC, eOp, eCall, eAnd, eOr, eNot, eIf, eTup, eFr, fLst, Opd.ev, evs, Arg.dat, dats, vals?, op1, op2, appF, cells, Arg.cell, sls, wb, finC, eChain, bAnd, bOr, bNot, bBl, bTru, truth, lt_ii, le_ii, gt_ii, ge_ii, neg_i, add_ii, sub_ii, max_ii, min_ii, add_ll, add_tt, sizeLine_eq, gTupD, gsCons, gsNil, gSet, notBor_eq, nbO_val, nbO_no, nbO_own, nbO_oc, ix_l, ix_t, Cell.mu?, Cell.lst?, Mu.lst?, len_l, len_t, eIsi, isi_pr, isiD, tyS, List.lookup, gTup_pr, ix_pr0, ix_pr1, at2_0, at2_1, D.fit, D.pure, pures, D.py, pys, PyData.depth, PyData.depthAll, at3_0, at3_1, at3_2, set3_0, set3_1, set3_2, set2_0, set2_1, eq_ii, ne_ii, eq_ss, ne_ss, eq_bb, ne_bb, int_i, abs_i, Cell.put, putAt, len_scr, isN_int, isN_non, oc_mu, oc_noX, nbO_oc, sTry, trS, exS, Sr.out, dropX, noExn, Cell.noX, eXf, eXis, sRaiseB, eMethN, eMethX, noKey, isIns, eConI, eMkKN, eMkKX, eMkX, eMk, eFld, fldD, sFor, fSeq, seqD, eSFld, sFldS, putK, pow6, pow15, pow18, pow20, pow30, pow31, eOpX, eOpN, gSqD, sParF, sParE, eCallK, sIns, eJs, joinE, FPart.ev, fmtD, eJoin, gPl, gNil, gSeq, gYield, gFor, fMethN, fMethX, onlyX, eMethKX, eMethKN, eCallKPX, eCallKPN, fMethFX, fMethKX, fMethKN, BE, oc_some], by simp [fnN, fnB, fnBF, sSeq, sRet, sRetF, sRetN, sIf, sSet, sNil, sExpr, sOwn, sPar, sAsg, sMut, sApp, sPut, eVar, eC, eOp, eCall, eAnd, eOr, eNot, eIf, eTup, eFr, fLst, Opd.ev, evs, Arg.dat, dats, vals?, op1, op2, appF, cells, Arg.cell, sls, wb, finC, eChain, bAnd, bOr, bNot, bBl, bTru, truth, lt_ii, le_ii, gt_ii, ge_ii, neg_i, add_ii, sub_ii, max_ii, min_ii, add_ll, add_tt, sizeLine_eq, gTupD, gsCons, gsNil, gSet, notBor_eq, nbO_val, nbO_no, nbO_own, nbO_oc, ix_l, ix_t, Cell.mu?, Cell.lst?, Mu.lst?, len_l, len_t, eIsi, isi_pr, isiD, tyS, List.lookup, gTup_pr, ix_pr0, ix_pr1, at2_0, at2_1, D.fit, D.pure, pures, D.py, pys, PyData.depth, PyData.depthAll, at3_0, at3_1, at3_2, set3_0, set3_1, set3_2, set2_0, set2_1, eq_ii, ne_ii, eq_ss, ne_ss, eq_bb, ne_bb, int_i, abs_i, Cell.put, putAt, len_scr, isN_int, isN_non, oc_mu, oc_noX, nbO_oc, sTry, trS, exS, Sr.out, dropX, noExn, Cell.noX, eXf, eXis, sRaiseB, eMethN, eMethX, noKey, isIns, eConI, eMkKN, eMkKX, eMkX, eMk, eFld, fldD, sFor, fSeq, seqD, eSFld, sFldS, putK, pow6, pow15, pow18, pow20, pow30, pow31, eOpX, eOpN, gSqD, sParF, sParE, eCallK, sIns, eJs, joinE, FPart.ev, fmtD, eJoin, gPl, gNil, gSeq, gYield, gFor, fMethN, fMethX, onlyX, eMethKX, eMethKN, eCallKPX, eCallKPN, fMethFX, fMethKX, fMethKN, b_l_bag_1, t_l_bag_3, BE, oc_some, q1, q2, q3, q4], _, _, _, rfl, Int.emod_nonneg _ (by decide), Int.emod_lt_of_pos _ (by decide)⟩)
    (enuD (xs.map D.int)) (BE ns i cl (5227 * i + 977) none none) (by
      intro d hd
      obtain ⟨k, x, rfl, hk⟩ := enu_at hd
      rw [List.getElem?_map] at hk
      obtain ⟨v, hv, rfl⟩ := Option.map_eq_some_iff.mp hk
      have := (List.getElem?_eq_some_iff.mp hv).1
      exact ⟨k, v, rfl, by omega⟩) ⟨_, none, none, rfl, by omega, by omega⟩
  have s4 : t_l_bag_4 (BE ns i cl (5227 * i + 977) none none) = .nx (BE ns i cl M o4 o5) := for_ok it lp
  refine ⟨[.int (if 1000000000000000000 ≤ (if cl < 0 then -cl else cl) then (if cl < 0 then -cl else cl) else 0), .int M], ?_, _, _, rfl, by split <;> (try split) <;> omega, M0, by omega⟩
  have s5 : t_l_bag_5 (BE ns i cl M o4 o5) = .rf [.int (if 1000000000000000000 ≤ (if cl < 0 then -cl else cl) then (if cl < 0 then -cl else cl) else 0), .int M] (BE ns i cl M o4 o5) := by
    by_cases c2 : 1000000000000000000 ≤ (if cl < 0 then -cl else cl) <;> simp [fnN, fnB, fnBF, sSeq, sRet, sRetF, sRetN, sIf, sSet, sNil, sExpr, sOwn, sPar, sAsg, sMut, sApp, sPut, eVar, eC, eOp, eCall, eAnd, eOr, eNot, eIf, eTup, eFr, fLst, Opd.ev, evs, Arg.dat, dats, vals?, op1, op2, appF, cells, Arg.cell, sls, wb, finC, eChain, bAnd, bOr, bNot, bBl, bTru, truth, lt_ii, le_ii, gt_ii, ge_ii, neg_i, add_ii, sub_ii, max_ii, min_ii, add_ll, add_tt, sizeLine_eq, gTupD, gsCons, gsNil, gSet, notBor_eq, nbO_val, nbO_no, nbO_own, nbO_oc, ix_l, ix_t, Cell.mu?, Cell.lst?, Mu.lst?, len_l, len_t, eIsi, isi_pr, isiD, tyS, List.lookup, gTup_pr, ix_pr0, ix_pr1, at2_0, at2_1, D.fit, D.pure, pures, D.py, pys, PyData.depth, PyData.depthAll, at3_0, at3_1, at3_2, set3_0, set3_1, set3_2, set2_0, set2_1, eq_ii, ne_ii, eq_ss, ne_ss, eq_bb, ne_bb, int_i, abs_i, Cell.put, putAt, len_scr, isN_int, isN_non, oc_mu, oc_noX, nbO_oc, sTry, trS, exS, Sr.out, dropX, noExn, Cell.noX, eXf, eXis, sRaiseB, eMethN, eMethX, noKey, isIns, eConI, eMkKN, eMkKX, eMkX, eMk, eFld, fldD, sFor, fSeq, seqD, eSFld, sFldS, putK, pow6, pow15, pow18, pow20, pow30, pow31, eOpX, eOpN, gSqD, sParF, sParE, eCallK, sIns, eJs, joinE, FPart.ev, fmtD, eJoin, gPl, gNil, gSeq, gYield, gFor, fMethN, fMethX, onlyX, eMethKX, eMethKN, eCallKPX, eCallKPN, fMethFX, fMethKX, fMethKN, t_l_bag_5, BE, fLst, c2]
  have run : sem_l_bag [.val (.scr ns), .val (.int i), .no, .no, .no, .no] = .rf [.int (if 1000000000000000000 ≤ (if cl < 0 then -cl else cl) then (if cl < 0 then -cl else cl) else 0), .int M] (BE ns i cl M o4 o5) := by
    unfold sem_l_bag
    rw [seq_nx s1, seq_nx s2, seq_nx s4, s5]
  show fnN (fnBF 6 sem_l_bag) _ = _
  unfold fnN fnBF
  have run : sem_l_bag ([Cell.val (.scr ns), .val (.int i)] ++ List.replicate (6 - [Cell.val (.scr ns), .val (.int i)].length) .no) = .rf [.int (if 1000000000000000000 ≤ (if cl < 0 then -cl else cl) then (if cl < 0 then -cl else cl) else 0), .int M] (BE ns i cl M o4 o5) := run
  simp only [run]
  rfl
/-! ### calls with values alone, tests -/
theorem eop1_ok {op : D → Option D} {f : EX} {ρ ρ1 : PEnv} {x z : D} (h1 : f ρ = .ok x ρ1) (h : op x = some z) : eOp (op1 op) [.ex f] ρ = .ok z ρ1 := by
  simp [eOp, evs, Opd.ev, h1, dats, Arg.dat, op1, h, Rs.lift]
theorem eop2_ok {op : D → D → Option D} {f g : EX} {ρ ρ1 ρ2 : PEnv} {x y z : D} (h1 : f ρ = .ok x ρ1) (h2 : g ρ1 = .ok y ρ2) (h : op x y = some z) : eOp (op2 op) [.ex f, .ex g] ρ = .ok z ρ2 := by
  simp [eOp, evs, Opd.ev, h1, h2, dats, Arg.dat, op2, h, Rs.lift]
theorem bb_ok {E : EX} {ρ ρ1 : PEnv} {b : Bool} (h : E ρ = .ok (.bl b) ρ1) : bBl E ρ = .ok b ρ1 := by
  simp [bBl, h]
theorem if_noS {t : BX} {f g : SX} {ρ : PEnv} (h : t ρ = .ok false ρ) : sIf t f g ρ = g ρ := if_no h
theorem if_yesS {t : BX} {f g : SX} {ρ : PEnv} (h : t ρ = .ok true ρ) : sIf t f g ρ = f ρ := if_yes h
theorem efr_ok {f : PEnv → Rs (List D)} {ρ ρ1 : PEnv} {ds : List D} (h : f ρ = .ok ds ρ1) : eFr f ρ = .ok (.lst ds) ρ1 := by
  unfold eFr; rw [h]; rfl
theorem set_ok {i : Nat} {f : EX} {ρ ρ1 : PEnv} {d : D} (h : f ρ = .ok d ρ1) (n : nbO ρ1[i]? = true) : sSet i f ρ = .nx (ρ1.set i (.val d)) := by
  unfold sSet
  rw [h]
  show (if _ then _ else _) = _
  rw [if_pos (by rw [notBor_eq]; exact n)]
theorem fb_rt {cs es : List Cell} {m : Nat} {f : SX} {d : D} {ρ : PEnv} (h : f (cs ++ List.replicate (m - cs.length) .no) = .rt d ρ) (hf : finC cs ρ = some es) : fnB m f cs = .ok d es := by
  unfold fnB
  simp only [h, hf]
/-! ### answers on concrete data -/
def isT : Option D → Bool
  | some (.bl true) => true
  | _ => false
def isF : Option D → Bool
  | some (.bl false) => true
  | _ => false
theorem isT_eq {x : Option D} (h : isT x = true) : x = some (.bl true) := by
  unfold isT at h; split at h
  · rfl
  · cases h
theorem isF_eq {x : Option D} (h : isF x = true) : x = some (.bl false) := by
  unfold isF at h; split at h
  · rfl
  · cases h
end Spk
namespace Spk
open PySem PySem.Spec PyProof.Rows L2
/-! ### expressions put together, over any environment -/
theorem call_vals {n : Nat} {fn : List Cell → Rs D} {os : List Opd} {ds : List D} {d : D} {ρ : PEnv} (he : evs os ρ = .ok (ds.map Arg.val) ρ) (hn : ds.length = n) (h : fn (ds.map Cell.val) = .ok d (ds.map Cell.val)) : eCall n fn [] os ρ = .ok d ρ := by
  have hs : ∀ ds : List D, sls (ds.map Arg.val) = [] := fun ds => by induction ds with | nil => rfl | cons d r ih => simpa [sls] using ih
  have hc : ∀ (ds : List D) (ρ : PEnv), cells ρ (ds.map Arg.val) = some (ds.map Cell.val) := fun ds ρ => by induction ds with | nil => rfl | cons d r ih => simp [cells, Arg.cell, ih]
  have hw : ∀ (ds : List D) (ρ : PEnv), wb (ds.map Arg.val) (ds.map Cell.val) ρ = some ρ := fun ds ρ => by induction ds with | nil => rfl | cons d t ih => simpa [wb] using ih
  unfold eCall
  rw [he, Rs.bind_ok]
  unfold appF
  rw [if_pos ⟨by simp [hn], by simp [hs]⟩]
  simp only [hc, List.map_nil, List.append_nil, h, hw]
  rfl
theorem cl1 {fn : List Cell → Rs D} {f0 : EX} {ρ : PEnv} {a z : D} (h0 : f0 ρ = .ok a ρ) (h : fn [.val a] = .ok z [.val a]) : eCall 1 fn [] [.ex f0] ρ = .ok z ρ := call_vals (ds := [a]) (by simp [evs, Opd.ev, h0]) rfl h
theorem cl5 {fn : List Cell → Rs D} {f0 f1 f2 f3 f4 : EX} {ρ : PEnv} {a b c d e z : D} (h0 : f0 ρ = .ok a ρ) (h1 : f1 ρ = .ok b ρ) (h2 : f2 ρ = .ok c ρ) (h3 : f3 ρ = .ok d ρ) (h4 : f4 ρ = .ok e ρ) (h : fn [.val a, .val b, .val c, .val d, .val e] = .ok z [.val a, .val b, .val c, .val d, .val e]) : eCall 5 fn [] [.ex f0, .ex f1, .ex f2, .ex f3, .ex f4] ρ = .ok z ρ := call_vals (ds := [a, b, c, d, e]) (by simp [evs, Opd.ev, h0, h1, h2, h3, h4]) rfl h
theorem mt1 {fn : List Cell → Rs D} {C m : Str} {f0 f1 : EX} {ρ : PEnv} {o a z : D} (h0 : f0 ρ = .ok o ρ) (h1 : f1 ρ = .ok a ρ) (i1 : isIns C o = true) (i2 : noKey m o = true) (h : fn [.val o, .val a] = .ok z [.val o, .val a]) : eMethN 2 fn C m [] f0 [.ex f1] ρ = .ok z ρ := by
  unfold eMethN
  rw [h0]
  simp only [Rs.bind_ok]
  rw [if_pos ⟨i1, i2⟩]
  simp [fnN, fnB, fnBF, sSeq, sRet, sRetF, sRetN, sIf, sSet, sNil, sExpr, sOwn, sPar, sAsg, sMut, sApp, sPut, eVar, eC, eOp, eCall, eAnd, eOr, eNot, eIf, eTup, eFr, fLst, Opd.ev, evs, Arg.dat, dats, vals?, op1, op2, appF, cells, Arg.cell, sls, wb, finC, eChain, bAnd, bOr, bNot, bBl, bTru, truth, lt_ii, le_ii, gt_ii, ge_ii, neg_i, add_ii, sub_ii, max_ii, min_ii, add_ll, add_tt, sizeLine_eq, gTupD, gsCons, gsNil, gSet, notBor_eq, nbO_val, nbO_no, nbO_own, nbO_oc, ix_l, ix_t, Cell.mu?, Cell.lst?, Mu.lst?, len_l, len_t, eIsi, isi_pr, isiD, tyS, List.lookup, gTup_pr, ix_pr0, ix_pr1, at2_0, at2_1, D.fit, D.pure, pures, D.py, pys, PyData.depth, PyData.depthAll, at3_0, at3_1, at3_2, set3_0, set3_1, set3_2, set2_0, set2_1, eq_ii, ne_ii, eq_ss, ne_ss, eq_bb, ne_bb, int_i, abs_i, Cell.put, putAt, len_scr, isN_int, isN_non, oc_mu, oc_noX, nbO_oc, sTry, trS, exS, Sr.out, dropX, noExn, Cell.noX, eXf, eXis, sRaiseB, eMethN, eMethX, noKey, isIns, eConI, eMkKN, eMkKX, eMkX, eMk, eFld, fldD, sFor, fSeq, seqD, eSFld, sFldS, putK, pow6, pow15, pow18, pow20, pow30, pow31, eOpX, eOpN, gSqD, sParF, sParE, eCallK, sIns, eJs, joinE, FPart.ev, fmtD, eJoin, gPl, gNil, gSeq, gYield, gFor, fMethN, fMethX, onlyX, eMethKX, eMethKN, eCallKPX, eCallKPN, fMethFX, fMethKX, fMethKN, h1, h]
theorem fl3 {f g h : EX} {ρ : PEnv} {a b c : D} (h0 : f ρ = .ok a ρ) (h1 : g ρ = .ok b ρ) (h2 : h ρ = .ok c ρ) : fLst [.ex f, .ex g, .ex h] ρ = .ok [a, b, c] ρ := by
  simp [fnN, fnB, fnBF, sSeq, sRet, sRetF, sRetN, sIf, sSet, sNil, sExpr, sOwn, sPar, sAsg, sMut, sApp, sPut, eVar, eC, eOp, eCall, eAnd, eOr, eNot, eIf, eTup, eFr, fLst, Opd.ev, evs, Arg.dat, dats, vals?, op1, op2, appF, cells, Arg.cell, sls, wb, finC, eChain, bAnd, bOr, bNot, bBl, bTru, truth, lt_ii, le_ii, gt_ii, ge_ii, neg_i, add_ii, sub_ii, max_ii, min_ii, add_ll, add_tt, sizeLine_eq, gTupD, gsCons, gsNil, gSet, notBor_eq, nbO_val, nbO_no, nbO_own, nbO_oc, ix_l, ix_t, Cell.mu?, Cell.lst?, Mu.lst?, len_l, len_t, eIsi, isi_pr, isiD, tyS, List.lookup, gTup_pr, ix_pr0, ix_pr1, at2_0, at2_1, D.fit, D.pure, pures, D.py, pys, PyData.depth, PyData.depthAll, at3_0, at3_1, at3_2, set3_0, set3_1, set3_2, set2_0, set2_1, eq_ii, ne_ii, eq_ss, ne_ss, eq_bb, ne_bb, int_i, abs_i, Cell.put, putAt, len_scr, isN_int, isN_non, oc_mu, oc_noX, nbO_oc, sTry, trS, exS, Sr.out, dropX, noExn, Cell.noX, eXf, eXis, sRaiseB, eMethN, eMethX, noKey, isIns, eConI, eMkKN, eMkKX, eMkX, eMk, eFld, fldD, sFor, fSeq, seqD, eSFld, sFldS, putK, pow6, pow15, pow18, pow20, pow30, pow31, eOpX, eOpN, gSqD, sParF, sParE, eCallK, sIns, eJs, joinE, FPart.ev, fmtD, eJoin, gPl, gNil, gSeq, gYield, gFor, fMethN, fMethX, onlyX, eMethKX, eMethKN, eCallKPX, eCallKPN, fMethFX, fMethKX, fMethKN, fLst, h0, h1, h2]
theorem retE_ok {f : EX} {ρ : PEnv} {d : D} (h : f ρ = .ok d ρ) : sRet f ρ = .rt d ρ := by
  simp [fnN, fnB, fnBF, sSeq, sRet, sRetF, sRetN, sIf, sSet, sNil, sExpr, sOwn, sPar, sAsg, sMut, sApp, sPut, eVar, eC, eOp, eCall, eAnd, eOr, eNot, eIf, eTup, eFr, fLst, Opd.ev, evs, Arg.dat, dats, vals?, op1, op2, appF, cells, Arg.cell, sls, wb, finC, eChain, bAnd, bOr, bNot, bBl, bTru, truth, lt_ii, le_ii, gt_ii, ge_ii, neg_i, add_ii, sub_ii, max_ii, min_ii, add_ll, add_tt, sizeLine_eq, gTupD, gsCons, gsNil, gSet, notBor_eq, nbO_val, nbO_no, nbO_own, nbO_oc, ix_l, ix_t, Cell.mu?, Cell.lst?, Mu.lst?, len_l, len_t, eIsi, isi_pr, isiD, tyS, List.lookup, gTup_pr, ix_pr0, ix_pr1, at2_0, at2_1, D.fit, D.pure, pures, D.py, pys, PyData.depth, PyData.depthAll, at3_0, at3_1, at3_2, set3_0, set3_1, set3_2, set2_0, set2_1, eq_ii, ne_ii, eq_ss, ne_ss, eq_bb, ne_bb, int_i, abs_i, Cell.put, putAt, len_scr, isN_int, isN_non, oc_mu, oc_noX, nbO_oc, sTry, trS, exS, Sr.out, dropX, noExn, Cell.noX, eXf, eXis, sRaiseB, eMethN, eMethX, noKey, isIns, eConI, eMkKN, eMkKX, eMkX, eMk, eFld, fldD, sFor, fSeq, seqD, eSFld, sFldS, putK, pow6, pow15, pow18, pow20, pow30, pow31, eOpX, eOpN, gSqD, sParF, sParE, eCallK, sIns, eJs, joinE, FPart.ev, fmtD, eJoin, gPl, gNil, gSeq, gYield, gFor, fMethN, fMethX, onlyX, eMethKX, eMethKN, eCallKPX, eCallKPN, fMethFX, fMethKX, fMethKN, h]
theorem notT_ok {f : EX} {ρ : PEnv} {b : Bool} (h : f ρ = .ok (.bl b) ρ) : bNot (bTru (.ex f)) ρ = .ok (!b) ρ := by
  simp [fnN, fnB, fnBF, sSeq, sRet, sRetF, sRetN, sIf, sSet, sNil, sExpr, sOwn, sPar, sAsg, sMut, sApp, sPut, eVar, eC, eOp, eCall, eAnd, eOr, eNot, eIf, eTup, eFr, fLst, Opd.ev, evs, Arg.dat, dats, vals?, op1, op2, appF, cells, Arg.cell, sls, wb, finC, eChain, bAnd, bOr, bNot, bBl, bTru, truth, lt_ii, le_ii, gt_ii, ge_ii, neg_i, add_ii, sub_ii, max_ii, min_ii, add_ll, add_tt, sizeLine_eq, gTupD, gsCons, gsNil, gSet, notBor_eq, nbO_val, nbO_no, nbO_own, nbO_oc, ix_l, ix_t, Cell.mu?, Cell.lst?, Mu.lst?, len_l, len_t, eIsi, isi_pr, isiD, tyS, List.lookup, gTup_pr, ix_pr0, ix_pr1, at2_0, at2_1, D.fit, D.pure, pures, D.py, pys, PyData.depth, PyData.depthAll, at3_0, at3_1, at3_2, set3_0, set3_1, set3_2, set2_0, set2_1, eq_ii, ne_ii, eq_ss, ne_ss, eq_bb, ne_bb, int_i, abs_i, Cell.put, putAt, len_scr, isN_int, isN_non, oc_mu, oc_noX, nbO_oc, sTry, trS, exS, Sr.out, dropX, noExn, Cell.noX, eXf, eXis, sRaiseB, eMethN, eMethX, noKey, isIns, eConI, eMkKN, eMkKX, eMkX, eMk, eFld, fldD, sFor, fSeq, seqD, eSFld, sFldS, putK, pow6, pow15, pow18, pow20, pow30, pow31, eOpX, eOpN, gSqD, sParF, sParE, eCallK, sIns, eJs, joinE, FPart.ev, fmtD, eJoin, gPl, gNil, gSeq, gYield, gFor, fMethN, fMethX, onlyX, eMethKX, eMethKN, eCallKPX, eCallKPN, fMethFX, fMethKX, fMethKN, h]
theorem orF {g h : BX} {ρ : PEnv} {b : Bool} (a : g ρ = .ok false ρ) (k : h ρ = .ok b ρ) : bOr g h ρ = .ok b ρ := by
  unfold bOr
  rw [a]; exact k
theorem andT {g h : BX} {ρ : PEnv} {b : Bool} (a : g ρ = .ok true ρ) (k : h ρ = .ok b ρ) : bAnd g h ρ = .ok b ρ := by
  unfold bAnd
  rw [a]; exact k
theorem andF {g h : BX} {ρ : PEnv} (a : g ρ = .ok false ρ) : bAnd g h ρ = .ok false ρ := by
  unfold bAnd
  rw [a]; rfl
theorem seq_rt {f g : SX} {ρ ρ1 : PEnv} {d : D} (h : f ρ = .rt d ρ1) : sSeq f g ρ = .rt d ρ1 := by
  unfold sSeq
  rw [h]; rfl
end Spk
namespace Spk
open PySem PySem.Spec PyProof.Rows L2
@[simp] theorem sb_word_ends : (("word" : Str) == "ends") = false := by decide
@[simp] theorem se_word_ends : (("word" : Str) = "ends") = False := by simp only [eq_iff_iff, iff_false]; decide
@[simp] theorem sb_word_which : (("word" : Str) == "which") = false := by decide
@[simp] theorem se_word_which : (("word" : Str) = "which") = False := by simp only [eq_iff_iff, iff_false]; decide
@[simp] theorem sb_word_within : (("word" : Str) == "within") = false := by decide
@[simp] theorem se_word_within : (("word" : Str) = "within") = False := by simp only [eq_iff_iff, iff_false]; decide
@[simp] theorem sb_word_form : (("word" : Str) == "form") = false := by decide
@[simp] theorem se_word_form : (("word" : Str) = "form") = False := by simp only [eq_iff_iff, iff_false]; decide
@[simp] theorem sb_word_what : (("word" : Str) == "what") = false := by decide
@[simp] theorem se_word_what : (("word" : Str) = "what") = False := by simp only [eq_iff_iff, iff_false]; decide
@[simp] theorem sb_ends_word : (("ends" : Str) == "word") = false := by decide
@[simp] theorem se_ends_word : (("ends" : Str) = "word") = False := by simp only [eq_iff_iff, iff_false]; decide
@[simp] theorem sb_ends_which : (("ends" : Str) == "which") = false := by decide
@[simp] theorem se_ends_which : (("ends" : Str) = "which") = False := by simp only [eq_iff_iff, iff_false]; decide
@[simp] theorem sb_ends_within : (("ends" : Str) == "within") = false := by decide
@[simp] theorem se_ends_within : (("ends" : Str) = "within") = False := by simp only [eq_iff_iff, iff_false]; decide
@[simp] theorem sb_ends_form : (("ends" : Str) == "form") = false := by decide
@[simp] theorem se_ends_form : (("ends" : Str) = "form") = False := by simp only [eq_iff_iff, iff_false]; decide
@[simp] theorem sb_ends_what : (("ends" : Str) == "what") = false := by decide
@[simp] theorem se_ends_what : (("ends" : Str) = "what") = False := by simp only [eq_iff_iff, iff_false]; decide
@[simp] theorem sb_which_word : (("which" : Str) == "word") = false := by decide
@[simp] theorem se_which_word : (("which" : Str) = "word") = False := by simp only [eq_iff_iff, iff_false]; decide
@[simp] theorem sb_which_ends : (("which" : Str) == "ends") = false := by decide
@[simp] theorem se_which_ends : (("which" : Str) = "ends") = False := by simp only [eq_iff_iff, iff_false]; decide
@[simp] theorem sb_which_within : (("which" : Str) == "within") = false := by decide
@[simp] theorem se_which_within : (("which" : Str) = "within") = False := by simp only [eq_iff_iff, iff_false]; decide
@[simp] theorem sb_which_form : (("which" : Str) == "form") = false := by decide
@[simp] theorem se_which_form : (("which" : Str) = "form") = False := by simp only [eq_iff_iff, iff_false]; decide
@[simp] theorem sb_which_what : (("which" : Str) == "what") = false := by decide
@[simp] theorem se_which_what : (("which" : Str) = "what") = False := by simp only [eq_iff_iff, iff_false]; decide
@[simp] theorem sb_within_word : (("within" : Str) == "word") = false := by decide
@[simp] theorem se_within_word : (("within" : Str) = "word") = False := by simp only [eq_iff_iff, iff_false]; decide
@[simp] theorem sb_within_ends : (("within" : Str) == "ends") = false := by decide
@[simp] theorem se_within_ends : (("within" : Str) = "ends") = False := by simp only [eq_iff_iff, iff_false]; decide
@[simp] theorem sb_within_which : (("within" : Str) == "which") = false := by decide
@[simp] theorem se_within_which : (("within" : Str) = "which") = False := by simp only [eq_iff_iff, iff_false]; decide
@[simp] theorem sb_within_form : (("within" : Str) == "form") = false := by decide
@[simp] theorem se_within_form : (("within" : Str) = "form") = False := by simp only [eq_iff_iff, iff_false]; decide
@[simp] theorem sb_within_what : (("within" : Str) == "what") = false := by decide
@[simp] theorem se_within_what : (("within" : Str) = "what") = False := by simp only [eq_iff_iff, iff_false]; decide
@[simp] theorem sb_form_word : (("form" : Str) == "word") = false := by decide
@[simp] theorem se_form_word : (("form" : Str) = "word") = False := by simp only [eq_iff_iff, iff_false]; decide
@[simp] theorem sb_form_ends : (("form" : Str) == "ends") = false := by decide
@[simp] theorem se_form_ends : (("form" : Str) = "ends") = False := by simp only [eq_iff_iff, iff_false]; decide
@[simp] theorem sb_form_which : (("form" : Str) == "which") = false := by decide
@[simp] theorem se_form_which : (("form" : Str) = "which") = False := by simp only [eq_iff_iff, iff_false]; decide
@[simp] theorem sb_form_within : (("form" : Str) == "within") = false := by decide
@[simp] theorem se_form_within : (("form" : Str) = "within") = False := by simp only [eq_iff_iff, iff_false]; decide
@[simp] theorem sb_form_what : (("form" : Str) == "what") = false := by decide
@[simp] theorem se_form_what : (("form" : Str) = "what") = False := by simp only [eq_iff_iff, iff_false]; decide
@[simp] theorem sb_what_word : (("what" : Str) == "word") = false := by decide
@[simp] theorem se_what_word : (("what" : Str) = "word") = False := by simp only [eq_iff_iff, iff_false]; decide
@[simp] theorem sb_what_ends : (("what" : Str) == "ends") = false := by decide
@[simp] theorem se_what_ends : (("what" : Str) = "ends") = False := by simp only [eq_iff_iff, iff_false]; decide
@[simp] theorem sb_what_which : (("what" : Str) == "which") = false := by decide
@[simp] theorem se_what_which : (("what" : Str) = "which") = False := by simp only [eq_iff_iff, iff_false]; decide
@[simp] theorem sb_what_within : (("what" : Str) == "within") = false := by decide
@[simp] theorem se_what_within : (("what" : Str) = "within") = False := by simp only [eq_iff_iff, iff_false]; decide
@[simp] theorem sb_what_form : (("what" : Str) == "form") = false := by decide
@[simp] theorem se_what_form : (("what" : Str) = "form") = False := by simp only [eq_iff_iff, iff_false]; decide
@[simp] theorem sb_Moments_Answer : (("Moments" : Str) == "Answer") = false := by decide
@[simp] theorem se_Moments_Answer : (("Moments" : Str) = "Answer") = False := by simp only [eq_iff_iff, iff_false]; decide
@[simp] theorem sb_Moments_Number : (("Moments" : Str) == "Number") = false := by decide
@[simp] theorem se_Moments_Number : (("Moments" : Str) = "Number") = False := by simp only [eq_iff_iff, iff_false]; decide
@[simp] theorem sb_Answer_Moments : (("Answer" : Str) == "Moments") = false := by decide
@[simp] theorem se_Answer_Moments : (("Answer" : Str) = "Moments") = False := by simp only [eq_iff_iff, iff_false]; decide
@[simp] theorem sb_Answer_Number : (("Answer" : Str) == "Number") = false := by decide
@[simp] theorem se_Answer_Number : (("Answer" : Str) = "Number") = False := by simp only [eq_iff_iff, iff_false]; decide
@[simp] theorem sb_Number_Moments : (("Number" : Str) == "Moments") = false := by decide
@[simp] theorem se_Number_Moments : (("Number" : Str) = "Moments") = False := by simp only [eq_iff_iff, iff_false]; decide
@[simp] theorem sb_Number_Answer : (("Number" : Str) == "Answer") = false := by decide
@[simp] theorem se_Number_Answer : (("Number" : Str) = "Answer") = False := by simp only [eq_iff_iff, iff_false]; decide
/-! ### wishes made -/
section
variable {w a f e : D}
def wT : List D := [.str "some", .str "none", .str "all", .str "one", .str "two", .str "each", .str "inside"]
def fT : List D := [.str "any", .str "full", .str "one", .str "cut"]
def aT : List D := [.str "busy", .str "covered", .str "clash"]
def nT : List D := [.str "all", .str "full", .str "left", .str "within", .str "touched", .str "pieces"]
def eT : List D := [.str "half", .str "shut"]
theorem half_f : notInD (.str "half") (.tup eT) = some (.bl false) := isF_eq (by decide +kernel)
theorem cword_n {d : D} {W : List D} (h : notInD d (.tup W) = some (.bl false)) : fn_check_word [.val d, .val (.tup W)] = .ok .non [.val d, .val (.tup W)] := by
  unfold fn_check_word sem_check_word
  simp [fnN, fnB, fnBF, sSeq, sRet, sRetF, sRetN, sIf, sSet, sNil, sExpr, sOwn, sPar, sAsg, sMut, sApp, sPut, eVar, eC, eOp, eCall, eAnd, eOr, eNot, eIf, eTup, eFr, fLst, Opd.ev, evs, Arg.dat, dats, vals?, op1, op2, appF, cells, Arg.cell, sls, wb, finC, eChain, bAnd, bOr, bNot, bBl, bTru, truth, lt_ii, le_ii, gt_ii, ge_ii, neg_i, add_ii, sub_ii, max_ii, min_ii, add_ll, add_tt, sizeLine_eq, gTupD, gsCons, gsNil, gSet, notBor_eq, nbO_val, nbO_no, nbO_own, nbO_oc, ix_l, ix_t, Cell.mu?, Cell.lst?, Mu.lst?, len_l, len_t, eIsi, isi_pr, isiD, tyS, List.lookup, gTup_pr, ix_pr0, ix_pr1, at2_0, at2_1, D.fit, D.pure, pures, D.py, pys, PyData.depth, PyData.depthAll, at3_0, at3_1, at3_2, set3_0, set3_1, set3_2, set2_0, set2_1, eq_ii, ne_ii, eq_ss, ne_ss, eq_bb, ne_bb, int_i, abs_i, Cell.put, putAt, len_scr, isN_int, isN_non, oc_mu, oc_noX, nbO_oc, sTry, trS, exS, Sr.out, dropX, noExn, Cell.noX, eXf, eXis, sRaiseB, eMethN, eMethX, noKey, isIns, eConI, eMkKN, eMkKX, eMkX, eMk, eFld, fldD, sFor, fSeq, seqD, eSFld, sFldS, putK, pow6, pow15, pow18, pow20, pow30, pow31, eOpX, eOpN, gSqD, sParF, sParE, eCallK, sIns, eJs, joinE, FPart.ev, fmtD, eJoin, gPl, gNil, gSeq, gYield, gFor, fMethN, fMethX, onlyX, eMethKX, eMethKN, eCallKPX, eCallKPN, fMethFX, fMethKX, fMethKN, t_check_word_1, h]
theorem cends_n {d : D} (h : notInD d (.tup eT) = some (.bl false)) : fn_check_ends [.val d] = .ok .non [.val d] := by
  unfold fn_check_ends sem_check_ends
  unfold eT at h
  simp [fnN, fnB, fnBF, sSeq, sRet, sRetF, sRetN, sIf, sSet, sNil, sExpr, sOwn, sPar, sAsg, sMut, sApp, sPut, eVar, eC, eOp, eCall, eAnd, eOr, eNot, eIf, eTup, eFr, fLst, Opd.ev, evs, Arg.dat, dats, vals?, op1, op2, appF, cells, Arg.cell, sls, wb, finC, eChain, bAnd, bOr, bNot, bBl, bTru, truth, lt_ii, le_ii, gt_ii, ge_ii, neg_i, add_ii, sub_ii, max_ii, min_ii, add_ll, add_tt, sizeLine_eq, gTupD, gsCons, gsNil, gSet, notBor_eq, nbO_val, nbO_no, nbO_own, nbO_oc, ix_l, ix_t, Cell.mu?, Cell.lst?, Mu.lst?, len_l, len_t, eIsi, isi_pr, isiD, tyS, List.lookup, gTup_pr, ix_pr0, ix_pr1, at2_0, at2_1, D.fit, D.pure, pures, D.py, pys, PyData.depth, PyData.depthAll, at3_0, at3_1, at3_2, set3_0, set3_1, set3_2, set2_0, set2_1, eq_ii, ne_ii, eq_ss, ne_ss, eq_bb, ne_bb, int_i, abs_i, Cell.put, putAt, len_scr, isN_int, isN_non, oc_mu, oc_noX, nbO_oc, sTry, trS, exS, Sr.out, dropX, noExn, Cell.noX, eXf, eXis, sRaiseB, eMethN, eMethX, noKey, isIns, eConI, eMkKN, eMkKX, eMkX, eMk, eFld, fldD, sFor, fSeq, seqD, eSFld, sFldS, putK, pow6, pow15, pow18, pow20, pow30, pow31, eOpX, eOpN, gSqD, sParF, sParE, eCallK, sIns, eJs, joinE, FPart.ev, fmtD, eJoin, gPl, gNil, gSeq, gYield, gFor, fMethN, fMethX, onlyX, eMethKX, eMethKN, eCallKPX, eCallKPN, fMethFX, fMethKX, fMethKN, t_check_ends_1, h]
def MI (m : Mu) (w a f e : D) : PEnv := [.bor m, .val w, .val a, .val f, .val e]
theorem mi_ok (h : notInD w (.tup wT) = some (.bl false)) (h2 : notInD f (.tup fT) = some (.bl false)) (h3 : notInD e (.tup eT) = some (.bl false)) : fn_Moments_init (MI (.obj "Moments" [] []) w a f e) = .ok .non (MI (.obj "Moments" ["which", "within", "form", "ends"] [w, a, f, e]) w a f e) := by
  have c := cword_n h
  have c2 := cword_n h2
  have c3 := cends_n h3
  unfold wT at c
  unfold fT at c2
  unfold fn_Moments_init sem_Moments_init MI
  simp [fnN, fnB, fnBF, sSeq, sRet, sRetF, sRetN, sIf, sSet, sNil, sExpr, sOwn, sPar, sAsg, sMut, sApp, sPut, eVar, eC, eOp, eCall, eAnd, eOr, eNot, eIf, eTup, eFr, fLst, Opd.ev, evs, Arg.dat, dats, vals?, op1, op2, appF, cells, Arg.cell, sls, wb, finC, eChain, bAnd, bOr, bNot, bBl, bTru, truth, lt_ii, le_ii, gt_ii, ge_ii, neg_i, add_ii, sub_ii, max_ii, min_ii, add_ll, add_tt, sizeLine_eq, gTupD, gsCons, gsNil, gSet, notBor_eq, nbO_val, nbO_no, nbO_own, nbO_oc, ix_l, ix_t, Cell.mu?, Cell.lst?, Mu.lst?, len_l, len_t, eIsi, isi_pr, isiD, tyS, List.lookup, gTup_pr, ix_pr0, ix_pr1, at2_0, at2_1, D.fit, D.pure, pures, D.py, pys, PyData.depth, PyData.depthAll, at3_0, at3_1, at3_2, set3_0, set3_1, set3_2, set2_0, set2_1, eq_ii, ne_ii, eq_ss, ne_ss, eq_bb, ne_bb, int_i, abs_i, Cell.put, putAt, len_scr, isN_int, isN_non, oc_mu, oc_noX, nbO_oc, sTry, trS, exS, Sr.out, dropX, noExn, Cell.noX, eXf, eXis, sRaiseB, eMethN, eMethX, noKey, isIns, eConI, eMkKN, eMkKX, eMkX, eMk, eFld, fldD, sFor, fSeq, seqD, eSFld, sFldS, putK, pow6, pow15, pow18, pow20, pow30, pow31, eOpX, eOpN, gSqD, sParF, sParE, eCallK, sIns, eJs, joinE, FPart.ev, fmtD, eJoin, gPl, gNil, gSeq, gYield, gFor, fMethN, fMethX, onlyX, eMethKX, eMethKN, eCallKPX, eCallKPN, fMethFX, fMethKX, fMethKN, t_Moments_init_1, t_Moments_init_2, t_Moments_init_3, t_Moments_init_4, t_Moments_init_5, t_Moments_init_6, t_Moments_init_7, eCallX, c, c2, c3]
def AI (m : Mu) (w e : D) : PEnv := [.bor m, .val w, .val e]
theorem ai_ok (h : notInD w (.tup aT) = some (.bl false)) (h3 : notInD e (.tup eT) = some (.bl false)) : fn_Answer_init (AI (.obj "Answer" [] []) w e) = .ok .non (AI (.obj "Answer" ["what", "ends"] [w, e]) w e) := by
  have c := cword_n h
  have c3 := cends_n h3
  unfold aT at c
  unfold fn_Answer_init sem_Answer_init AI
  simp [fnN, fnB, fnBF, sSeq, sRet, sRetF, sRetN, sIf, sSet, sNil, sExpr, sOwn, sPar, sAsg, sMut, sApp, sPut, eVar, eC, eOp, eCall, eAnd, eOr, eNot, eIf, eTup, eFr, fLst, Opd.ev, evs, Arg.dat, dats, vals?, op1, op2, appF, cells, Arg.cell, sls, wb, finC, eChain, bAnd, bOr, bNot, bBl, bTru, truth, lt_ii, le_ii, gt_ii, ge_ii, neg_i, add_ii, sub_ii, max_ii, min_ii, add_ll, add_tt, sizeLine_eq, gTupD, gsCons, gsNil, gSet, notBor_eq, nbO_val, nbO_no, nbO_own, nbO_oc, ix_l, ix_t, Cell.mu?, Cell.lst?, Mu.lst?, len_l, len_t, eIsi, isi_pr, isiD, tyS, List.lookup, gTup_pr, ix_pr0, ix_pr1, at2_0, at2_1, D.fit, D.pure, pures, D.py, pys, PyData.depth, PyData.depthAll, at3_0, at3_1, at3_2, set3_0, set3_1, set3_2, set2_0, set2_1, eq_ii, ne_ii, eq_ss, ne_ss, eq_bb, ne_bb, int_i, abs_i, Cell.put, putAt, len_scr, isN_int, isN_non, oc_mu, oc_noX, nbO_oc, sTry, trS, exS, Sr.out, dropX, noExn, Cell.noX, eXf, eXis, sRaiseB, eMethN, eMethX, noKey, isIns, eConI, eMkKN, eMkKX, eMkX, eMk, eFld, fldD, sFor, fSeq, seqD, eSFld, sFldS, putK, pow6, pow15, pow18, pow20, pow30, pow31, eOpX, eOpN, gSqD, sParF, sParE, eCallK, sIns, eJs, joinE, FPart.ev, fmtD, eJoin, gPl, gNil, gSeq, gYield, gFor, fMethN, fMethX, onlyX, eMethKX, eMethKN, eCallKPX, eCallKPN, fMethFX, fMethKX, fMethKN, t_Answer_init_1, t_Answer_init_2, t_Answer_init_3, t_Answer_init_4, eCallX, c, c3]
theorem ni_ok (h : notInD w (.tup nT) = some (.bl false)) (h3 : notInD e (.tup eT) = some (.bl false)) : fn_Number_init (AI (.obj "Number" [] []) w e) = .ok .non (AI (.obj "Number" ["what", "ends"] [w, e]) w e) := by
  have c := cword_n h
  have c3 := cends_n h3
  unfold nT at c
  unfold fn_Number_init sem_Number_init AI
  simp [fnN, fnB, fnBF, sSeq, sRet, sRetF, sRetN, sIf, sSet, sNil, sExpr, sOwn, sPar, sAsg, sMut, sApp, sPut, eVar, eC, eOp, eCall, eAnd, eOr, eNot, eIf, eTup, eFr, fLst, Opd.ev, evs, Arg.dat, dats, vals?, op1, op2, appF, cells, Arg.cell, sls, wb, finC, eChain, bAnd, bOr, bNot, bBl, bTru, truth, lt_ii, le_ii, gt_ii, ge_ii, neg_i, add_ii, sub_ii, max_ii, min_ii, add_ll, add_tt, sizeLine_eq, gTupD, gsCons, gsNil, gSet, notBor_eq, nbO_val, nbO_no, nbO_own, nbO_oc, ix_l, ix_t, Cell.mu?, Cell.lst?, Mu.lst?, len_l, len_t, eIsi, isi_pr, isiD, tyS, List.lookup, gTup_pr, ix_pr0, ix_pr1, at2_0, at2_1, D.fit, D.pure, pures, D.py, pys, PyData.depth, PyData.depthAll, at3_0, at3_1, at3_2, set3_0, set3_1, set3_2, set2_0, set2_1, eq_ii, ne_ii, eq_ss, ne_ss, eq_bb, ne_bb, int_i, abs_i, Cell.put, putAt, len_scr, isN_int, isN_non, oc_mu, oc_noX, nbO_oc, sTry, trS, exS, Sr.out, dropX, noExn, Cell.noX, eXf, eXis, sRaiseB, eMethN, eMethX, noKey, isIns, eConI, eMkKN, eMkKX, eMkX, eMk, eFld, fldD, sFor, fSeq, seqD, eSFld, sFldS, putK, pow6, pow15, pow18, pow20, pow30, pow31, eOpX, eOpN, gSqD, sParF, sParE, eCallK, sIns, eJs, joinE, FPart.ev, fmtD, eJoin, gPl, gNil, gSeq, gYield, gFor, fMethN, fMethX, onlyX, eMethKX, eMethKN, eCallKPX, eCallKPN, fMethFX, fMethKX, fMethKN, t_Number_init_1, t_Number_init_2, t_Number_init_3, t_Number_init_4, eCallX, c, c3]
theorem kxN {n : Nat} {fn : List Cell → Rs D} {c : Str} {l k : Nat} {gA : List Arg → List Arg → List Arg} {os kos : List Opd} {ρ : PEnv} {as bs : List Arg} {d : D} (h1 : evs os ρ = .ok as ρ) (h2 : evs kos ρ = .ok bs ρ) (hl : as.length = l ∧ bs.length = k) (hm : mkE n fn c [] (gA as bs) ρ = .ok d ρ) : eMkKN n fn c l k gA os kos ρ = .ok d ρ := by
  unfold eMkKN; rw [h1, Rs.bind_ok, h2, Rs.bind_ok, if_pos hl, hm]; rfl
def momD (w a f e : D) : D := .ins "Moments" ["which", "within", "form", "ends"] [w, a, f, e]
def ansD (w e : D) : D := .ins "Answer" ["what", "ends"] [w, e]
def numD (w e : D) : D := .ins "Number" ["what", "ends"] [w, e]
theorem mk_mom_ok (h : fn_Moments_init (MI (.obj "Moments" [] []) w a f e) = .ok .non (MI (.obj "Moments" ["which", "within", "form", "ends"] [w, a, f, e]) w a f e)) (ρ : PEnv) : mkE 5 fn_Moments_init "Moments" [] [.val w, .val a, .val f, .val e] ρ = .ok (momD w a f e) ρ :=
  mk_vals (ds := [w, a, f, e]) (dfl := []) rfl h ρ
theorem mk_ans_ok (h : fn_Answer_init (AI (.obj "Answer" [] []) w e) = .ok .non (AI (.obj "Answer" ["what", "ends"] [w, e]) w e)) (ρ : PEnv) : mkE 3 fn_Answer_init "Answer" [] [.val w, .val e] ρ = .ok (ansD w e) ρ :=
  mk_vals (ds := [w, e]) (dfl := []) rfl h ρ
theorem mk_num_ok (h : fn_Number_init (AI (.obj "Number" [] []) w e) = .ok .non (AI (.obj "Number" ["what", "ends"] [w, e]) w e)) (ρ : PEnv) : mkE 3 fn_Number_init "Number" [] [.val w, .val e] ρ = .ok (numD w e) ρ :=
  mk_vals (ds := [w, e]) (dfl := []) rfl h ρ
theorem evs1 {f : EX} {ρ : PEnv} {a : D} (h1 : f ρ = .ok a ρ) : evs [.ex f] ρ = .ok [.val a] ρ := by
  simp [evs, Opd.ev, h1]
theorem evs3 {f g k : EX} {ρ : PEnv} {a b c : D} (h1 : f ρ = .ok a ρ) (h2 : g ρ = .ok b ρ) (h3 : k ρ = .ok c ρ) : evs [.ex f, .ex g, .ex k] ρ = .ok [.val a, .val b, .val c] ρ := by
  simp [evs, Opd.ev, h1, h2, h3]
end
theorem ans_made {w : D} (h : notInD w (.tup aT) = some (.bl false)) (ρ : PEnv) : eMk 3 fn_Answer_init "Answer" [(.str "half")] [(.ex (eC w))] ρ = .ok (ansD w (.str "half")) ρ := by
  have m := mk_vals (n := 3) (fn := fn_Answer_init) (c := "Answer") (ds := [w]) (dfl := [.str "half"]) rfl (ai_ok h half_f) ρ
  unfold eMk
  rw [evs1 (f := eC w) (a := w) (ρ := ρ) rfl, Rs.bind_ok]
  exact congrArg Rs.nx m
theorem num_made {w : D} (h : notInD w (.tup nT) = some (.bl false)) (ρ : PEnv) : eMk 3 fn_Number_init "Number" [(.str "half")] [(.ex (eC w))] ρ = .ok (numD w (.str "half")) ρ := by
  have m := mk_vals (n := 3) (fn := fn_Number_init) (c := "Number") (ds := [w]) (dfl := [.str "half"]) rfl (ni_ok h half_f) ρ
  unfold eMk
  rw [evs1 (f := eC w) (a := w) (ρ := ρ) rfl, Rs.bind_ok]
  exact congrArg Rs.nx m
end Spk
namespace Spk
open PySem PySem.Spec PyProof.Rows L2
@[simp] theorem sb_Moments_Loop : (("Moments" : Str) == "Loop") = false := by decide
@[simp] theorem se_Moments_Loop : (("Moments" : Str) = "Loop") = False := by simp only [eq_iff_iff, iff_false]; decide
@[simp] theorem sb_Answer_Loop : (("Answer" : Str) == "Loop") = false := by decide
@[simp] theorem se_Answer_Loop : (("Answer" : Str) = "Loop") = False := by simp only [eq_iff_iff, iff_false]; decide
@[simp] theorem sb_Number_Loop : (("Number" : Str) == "Loop") = false := by decide
@[simp] theorem se_Number_Loop : (("Number" : Str) = "Loop") = False := by simp only [eq_iff_iff, iff_false]; decide
@[simp] theorem sb_Loop_Moments : (("Loop" : Str) == "Moments") = false := by decide
@[simp] theorem se_Loop_Moments : (("Loop" : Str) = "Moments") = False := by simp only [eq_iff_iff, iff_false]; decide
@[simp] theorem sb_Loop_Answer : (("Loop" : Str) == "Answer") = false := by decide
@[simp] theorem se_Loop_Answer : (("Loop" : Str) = "Answer") = False := by simp only [eq_iff_iff, iff_false]; decide
@[simp] theorem sb_Loop_Number : (("Loop" : Str) == "Number") = false := by decide
@[simp] theorem se_Loop_Number : (("Loop" : Str) = "Number") = False := by simp only [eq_iff_iff, iff_false]; decide
@[simp] theorem sb_moments_answer : (("moments" : Str) == "answer") = false := by decide
@[simp] theorem se_moments_answer : (("moments" : Str) = "answer") = False := by simp only [eq_iff_iff, iff_false]; decide
@[simp] theorem sb_moments_number : (("moments" : Str) == "number") = false := by decide
@[simp] theorem se_moments_number : (("moments" : Str) = "number") = False := by simp only [eq_iff_iff, iff_false]; decide
@[simp] theorem sb_answer_moments : (("answer" : Str) == "moments") = false := by decide
@[simp] theorem se_answer_moments : (("answer" : Str) = "moments") = False := by simp only [eq_iff_iff, iff_false]; decide
@[simp] theorem sb_answer_number : (("answer" : Str) == "number") = false := by decide
@[simp] theorem se_answer_number : (("answer" : Str) = "number") = False := by simp only [eq_iff_iff, iff_false]; decide
@[simp] theorem sb_number_moments : (("number" : Str) == "moments") = false := by decide
@[simp] theorem se_number_moments : (("number" : Str) = "moments") = False := by simp only [eq_iff_iff, iff_false]; decide
@[simp] theorem sb_number_answer : (("number" : Str) == "answer") = false := by decide
@[simp] theorem se_number_answer : (("number" : Str) = "answer") = False := by simp only [eq_iff_iff, iff_false]; decide
@[simp] theorem sb_order_ahead : (("order" : Str) == "ahead") = false := by decide
@[simp] theorem se_order_ahead : (("order" : Str) = "ahead") = False := by simp only [eq_iff_iff, iff_false]; decide
@[simp] theorem sb_order_each : (("order" : Str) == "each") = false := by decide
@[simp] theorem se_order_each : (("order" : Str) = "each") = False := by simp only [eq_iff_iff, iff_false]; decide
@[simp] theorem sb_order_behind : (("order" : Str) == "behind") = false := by decide
@[simp] theorem se_order_behind : (("order" : Str) = "behind") = False := by simp only [eq_iff_iff, iff_false]; decide
@[simp] theorem sb_order_known : (("order" : Str) == "known") = false := by decide
@[simp] theorem se_order_known : (("order" : Str) = "known") = False := by simp only [eq_iff_iff, iff_false]; decide
@[simp] theorem sb_ahead_order : (("ahead" : Str) == "order") = false := by decide
@[simp] theorem se_ahead_order : (("ahead" : Str) = "order") = False := by simp only [eq_iff_iff, iff_false]; decide
@[simp] theorem sb_ahead_each : (("ahead" : Str) == "each") = false := by decide
@[simp] theorem se_ahead_each : (("ahead" : Str) = "each") = False := by simp only [eq_iff_iff, iff_false]; decide
@[simp] theorem sb_ahead_behind : (("ahead" : Str) == "behind") = false := by decide
@[simp] theorem se_ahead_behind : (("ahead" : Str) = "behind") = False := by simp only [eq_iff_iff, iff_false]; decide
@[simp] theorem sb_ahead_known : (("ahead" : Str) == "known") = false := by decide
@[simp] theorem se_ahead_known : (("ahead" : Str) = "known") = False := by simp only [eq_iff_iff, iff_false]; decide
@[simp] theorem sb_each_order : (("each" : Str) == "order") = false := by decide
@[simp] theorem se_each_order : (("each" : Str) = "order") = False := by simp only [eq_iff_iff, iff_false]; decide
@[simp] theorem sb_each_ahead : (("each" : Str) == "ahead") = false := by decide
@[simp] theorem se_each_ahead : (("each" : Str) = "ahead") = False := by simp only [eq_iff_iff, iff_false]; decide
@[simp] theorem sb_each_behind : (("each" : Str) == "behind") = false := by decide
@[simp] theorem se_each_behind : (("each" : Str) = "behind") = False := by simp only [eq_iff_iff, iff_false]; decide
@[simp] theorem sb_each_known : (("each" : Str) == "known") = false := by decide
@[simp] theorem se_each_known : (("each" : Str) = "known") = False := by simp only [eq_iff_iff, iff_false]; decide
@[simp] theorem sb_behind_order : (("behind" : Str) == "order") = false := by decide
@[simp] theorem se_behind_order : (("behind" : Str) = "order") = False := by simp only [eq_iff_iff, iff_false]; decide
@[simp] theorem sb_behind_ahead : (("behind" : Str) == "ahead") = false := by decide
@[simp] theorem se_behind_ahead : (("behind" : Str) = "ahead") = False := by simp only [eq_iff_iff, iff_false]; decide
@[simp] theorem sb_behind_each : (("behind" : Str) == "each") = false := by decide
@[simp] theorem se_behind_each : (("behind" : Str) = "each") = False := by simp only [eq_iff_iff, iff_false]; decide
@[simp] theorem sb_behind_known : (("behind" : Str) == "known") = false := by decide
@[simp] theorem se_behind_known : (("behind" : Str) = "known") = False := by simp only [eq_iff_iff, iff_false]; decide
@[simp] theorem sb_known_order : (("known" : Str) == "order") = false := by decide
@[simp] theorem se_known_order : (("known" : Str) = "order") = False := by simp only [eq_iff_iff, iff_false]; decide
@[simp] theorem sb_known_ahead : (("known" : Str) == "ahead") = false := by decide
@[simp] theorem se_known_ahead : (("known" : Str) = "ahead") = False := by simp only [eq_iff_iff, iff_false]; decide
@[simp] theorem sb_known_each : (("known" : Str) == "each") = false := by decide
@[simp] theorem se_known_each : (("known" : Str) = "each") = False := by simp only [eq_iff_iff, iff_false]; decide
@[simp] theorem sb_known_behind : (("known" : Str) == "behind") = false := by decide
@[simp] theorem se_known_behind : (("known" : Str) = "behind") = False := by simp only [eq_iff_iff, iff_false]; decide
@[simp] theorem sb_by_fits : (("by" : Str) == "fits") = false := by decide
@[simp] theorem se_by_fits : (("by" : Str) = "fits") = False := by simp only [eq_iff_iff, iff_false]; decide
@[simp] theorem sb_by_uses_window : (("by" : Str) == "uses_window") = false := by decide
@[simp] theorem se_by_uses_window : (("by" : Str) = "uses_window") = False := by simp only [eq_iff_iff, iff_false]; decide
@[simp] theorem sb_by_wants_begins : (("by" : Str) == "wants_begins") = false := by decide
@[simp] theorem se_by_wants_begins : (("by" : Str) = "wants_begins") = False := by simp only [eq_iff_iff, iff_false]; decide
@[simp] theorem sb_fits_by : (("fits" : Str) == "by") = false := by decide
@[simp] theorem se_fits_by : (("fits" : Str) = "by") = False := by simp only [eq_iff_iff, iff_false]; decide
@[simp] theorem sb_fits_uses_window : (("fits" : Str) == "uses_window") = false := by decide
@[simp] theorem se_fits_uses_window : (("fits" : Str) = "uses_window") = False := by simp only [eq_iff_iff, iff_false]; decide
@[simp] theorem sb_fits_wants_begins : (("fits" : Str) == "wants_begins") = false := by decide
@[simp] theorem se_fits_wants_begins : (("fits" : Str) = "wants_begins") = False := by simp only [eq_iff_iff, iff_false]; decide
@[simp] theorem sb_uses_window_by : (("uses_window" : Str) == "by") = false := by decide
@[simp] theorem se_uses_window_by : (("uses_window" : Str) = "by") = False := by simp only [eq_iff_iff, iff_false]; decide
@[simp] theorem sb_uses_window_fits : (("uses_window" : Str) == "fits") = false := by decide
@[simp] theorem se_uses_window_fits : (("uses_window" : Str) = "fits") = False := by simp only [eq_iff_iff, iff_false]; decide
@[simp] theorem sb_uses_window_wants_begins : (("uses_window" : Str) == "wants_begins") = false := by decide
@[simp] theorem se_uses_window_wants_begins : (("uses_window" : Str) = "wants_begins") = False := by simp only [eq_iff_iff, iff_false]; decide
@[simp] theorem sb_wants_begins_by : (("wants_begins" : Str) == "by") = false := by decide
@[simp] theorem se_wants_begins_by : (("wants_begins" : Str) = "by") = False := by simp only [eq_iff_iff, iff_false]; decide
@[simp] theorem sb_wants_begins_fits : (("wants_begins" : Str) == "fits") = false := by decide
@[simp] theorem se_wants_begins_fits : (("wants_begins" : Str) = "fits") = False := by simp only [eq_iff_iff, iff_false]; decide
@[simp] theorem sb_wants_begins_uses_window : (("wants_begins" : Str) == "uses_window") = false := by decide
@[simp] theorem se_wants_begins_uses_window : (("wants_begins" : Str) = "uses_window") = False := by simp only [eq_iff_iff, iff_false]; decide
/-! ### the wishes, named -/
inductive Wd where
  | m (t : Fin 7) (s : Fin 4) (b e : Bool)
  | a (t : Fin 3) (e : Bool)
  | n (t : Fin 6) (e : Bool)
  deriving DecidableEq
def tM : Fin 7 → Str
  | 0 => "some"
  | 1 => "none"
  | 2 => "all"
  | 3 => "one"
  | 4 => "two"
  | 5 => "each"
  | 6 => "inside"
def sM : Fin 4 → Str
  | 0 => "one"
  | 1 => "full"
  | 2 => "any"
  | 3 => "cut"
def tA : Fin 3 → Str
  | 0 => "busy"
  | 1 => "covered"
  | 2 => "clash"
def tN : Fin 6 → Str
  | 0 => "all"
  | 1 => "full"
  | 2 => "left"
  | 3 => "within"
  | 4 => "touched"
  | 5 => "pieces"
def wE : Bool → Str
  | false => "half"
  | true => "shut"
def isB : Bool → Option D → Bool
  | true => isT
  | false => isF
theorem isB_eq {b : Bool} {x : Option D} (h : isB b x = true) : x = some (.bl b) := by
  cases b
  · exact isF_eq h
  · exact isT_eq h
theorem tM_in (i : Fin 7) : notInD (.str (tM i)) (.tup wT) = some (.bl false) := isF_eq ((by decide +kernel : ∀ i : Fin 7, isF (notInD (.str (tM i)) (.tup wT)) = true) i)
theorem sM_in (i : Fin 4) : notInD (.str (sM i)) (.tup fT) = some (.bl false) := isF_eq ((by decide +kernel : ∀ i : Fin 4, isF (notInD (.str (sM i)) (.tup fT)) = true) i)
theorem tA_in (i : Fin 3) : notInD (.str (tA i)) (.tup aT) = some (.bl false) := isF_eq ((by decide +kernel : ∀ i : Fin 3, isF (notInD (.str (tA i)) (.tup aT)) = true) i)
theorem tN_in (i : Fin 6) : notInD (.str (tN i)) (.tup nT) = some (.bl false) := isF_eq ((by decide +kernel : ∀ i : Fin 6, isF (notInD (.str (tN i)) (.tup nT)) = true) i)
theorem wE_in (i : Bool) : notInD (.str (wE i)) (.tup eT) = some (.bl false) := isF_eq ((by decide +kernel : ∀ i : Bool, isF (notInD (.str (wE i)) (.tup eT)) = true) i)
theorem tM_eq (i j : Fin 7) : eqD (.str (tM i)) (.str (tM j)) = some (.bl (decide (i = j))) := isB_eq ((by decide +kernel : ∀ i j : Fin 7, isB (decide (i = j)) (eqD (.str (tM i)) (.str (tM j))) = true) i j)
theorem sM_eq (i j : Fin 4) : eqD (.str (sM i)) (.str (sM j)) = some (.bl (decide (i = j))) := isB_eq ((by decide +kernel : ∀ i j : Fin 4, isB (decide (i = j)) (eqD (.str (sM i)) (.str (sM j))) = true) i j)
theorem tA_eq (i j : Fin 3) : eqD (.str (tA i)) (.str (tA j)) = some (.bl (decide (i = j))) := isB_eq ((by decide +kernel : ∀ i j : Fin 3, isB (decide (i = j)) (eqD (.str (tA i)) (.str (tA j))) = true) i j)
theorem tN_eq (i j : Fin 6) : eqD (.str (tN i)) (.str (tN j)) = some (.bl (decide (i = j))) := isB_eq ((by decide +kernel : ∀ i j : Fin 6, isB (decide (i = j)) (eqD (.str (tN i)) (.str (tN j))) = true) i j)
theorem wE_eq (i j : Bool) : eqD (.str (wE i)) (.str (wE j)) = some (.bl (decide (i = j))) := isB_eq ((by decide +kernel : ∀ i j : Bool, isB (decide (i = j)) (eqD (.str (wE i)) (.str (wE j))) = true) i j)
theorem bl_eq (i j : Bool) : eqD (.bl i) (.bl j) = some (.bl (decide (i = j))) := isB_eq ((by decide +kernel : ∀ i j : Bool, isB (decide (i = j)) (eqD (.bl i) (.bl j)) = true) i j)
namespace Wd
def kd : Wd → D
  | .m .. => .str "moments"
  | .a .. => .str "answer"
  | .n .. => .str "number"
def tm : Wd → D
  | .m t _ _ _ => .str (tM t)
  | .a t _ => .str (tA t)
  | .n t _ => .str (tN t)
def sh : Wd → D
  | .m _ s _ _ => .str (sM s)
  | _ => .non
def ib : Wd → D
  | .m _ _ b _ => .bl b
  | _ => .non
def en : Wd → Bool
  | .m _ _ _ e => e
  | .a _ e => e
  | .n _ e => e
def wd (W : Wd) : D := .str (wE W.en)
def wish : Wd → D
  | .m t s b e => momD (.str (tM t)) (.bl b) (.str (sM s)) (.str (wE e))
  | .a t e => ansD (.str (tA t)) (.str (wE e))
  | .n t e => numD (.str (tN t)) (.str (wE e))
def by_ : Wd → Bool → Wd
  | .m t s b _, e => .m t s b e
  | .a t _, e => .a t e
  | .n t _, e => .n t e
/-- whether it fits a loop that reads events -/
def ins : Wd → Bool
  | .m t _ _ _ => decide (t = 6)
  | _ => false
def uw : Wd → Bool
  | .m _ s b _ => b || decide (s = 3)
  | .a t _ => decide (t ≠ 2)
  | .n t _ => decide (t = 2 ∨ t = 3 ∨ t = 4)
def wb : Wd → Bool
  | .m .. => false
  | .a t _ => decide (t ≠ 0)
  | .n t _ => decide (t = 5)
def eqF : Wd → List Cell → Rs D
  | .m .. => fn_Moments_eq
  | .a .. => fn_Answer_eq
  | .n .. => fn_Number_eq
end Wd
section
variable {f g : EX} {ρ : PEnv} {W : Wd} {y : D} {b : Bool}
theorem kxX {n : Nat} {fn : List Cell → Rs D} {c : Str} {l k : Nat} {gA : List Arg → List Arg → List Arg} {os kos : List Opd} {ρ : PEnv} {as bs : List Arg} {d : D} (h1 : evs os ρ = .ok as ρ) (h2 : evs kos ρ = .ok bs ρ) (hl : as.length = l ∧ bs.length = k) (hm : mkE n fn c [] (gA as bs) ρ = .ok d ρ) : eMkKX n fn c l k gA os kos ρ = .ok d ρ := by
  unfold eMkKX; rw [h1, Rs.bind_ok, h2, Rs.bind_ok, if_pos hl, hm]
theorem mom_mk (t : Fin 7) (s : Fin 4) (b e : Bool) (ρ : PEnv) : mkE 5 fn_Moments_init "Moments" [] [.val (.str (tM t)), .val (.bl b), .val (.str (sM s)), .val (.str (wE e))] ρ = .ok (Wd.m t s b e).wish ρ :=
  mk_mom_ok (mi_ok (tM_in t) (sM_in s) (wE_in e)) ρ
theorem ans_mk (t : Fin 3) (e : Bool) (ρ : PEnv) : mkE 3 fn_Answer_init "Answer" [] [.val (.str (tA t)), .val (.str (wE e))] ρ = .ok (Wd.a t e).wish ρ := mk_ans_ok (ai_ok (tA_in t) (wE_in e)) ρ
theorem num_mk (t : Fin 6) (e : Bool) (ρ : PEnv) : mkE 3 fn_Number_init "Number" [] [.val (.str (tN t)), .val (.str (wE e))] ρ = .ok (Wd.n t e).wish ρ := mk_num_ok (ni_ok (tN_in t) (wE_in e)) ρ
theorem eif_t {c : BX} {f g : EX} {ρ ρ1 : PEnv} {r : Rs D} (h : c ρ = .ok true ρ1) (k : f ρ1 = r) : eIf c f g ρ = r := by
  unfold eIf; rw [h]; exact k
theorem eif_f {c : BX} {f g : EX} {ρ ρ1 : PEnv} {r : Rs D} (h : c ρ = .ok false ρ1) (k : g ρ1 = r) : eIf c f g ρ = r := by
  unfold eIf; rw [h]; exact k
/-- _law_wish -/
theorem lw_ok (W : Wd) : fn_l_wish [.val W.kd, .val W.tm, .val W.sh, .val W.ib, .val W.wd] = .ok W.wish [.val W.kd, .val W.tm, .val W.sh, .val W.ib, .val W.wd] := by
  cases W with
  | m t s b e =>
    have q := kxN (l := 1) (k := 3) (gA := fun as bs => as ++ bs) (as := [.val (.str (tM t))]) (bs := [.val (.bl b), .val (.str (sM s)), .val (.str (wE e))]) (os := [.ex (eVar 1)]) (kos := [.ex (eVar 3), .ex (eVar 2), .ex (eVar 4)]) (ρ := [.val (.str "moments"), .val (.str (tM t)), .val (.str (sM s)), .val (.bl b), .val (.str (wE e))]) (evs1 rfl) (evs3 rfl rfl rfl) ⟨rfl, rfl⟩ (mom_mk t s b e _)
    unfold fn_l_wish sem_l_wish
    simp only [Wd.kd, Wd.tm, Wd.sh, Wd.ib, Wd.wd, Wd.en]
    exact fn_rt (by
      show sSeq t_l_wish_1 t_l_wish_2 _ = _
      refine seq_rt (d := (Wd.m t s b e).wish) (ρ1 := [.val (.str "moments"), .val (.str (tM t)), .val (.str (sM s)), .val (.bl b), .val (.str (wE e))]) ?_
      unfold t_l_wish_1
      refine (if_yesS (by simp [fnN, fnB, fnBF, sSeq, sRet, sRetF, sRetN, sIf, sSet, sNil, sExpr, sOwn, sPar, sAsg, sMut, sApp, sPut, eVar, eC, eOp, eCall, eAnd, eOr, eNot, eIf, eTup, eFr, fLst, Opd.ev, evs, Arg.dat, dats, vals?, op1, op2, appF, cells, Arg.cell, sls, wb, finC, eChain, bAnd, bOr, bNot, bBl, bTru, truth, lt_ii, le_ii, gt_ii, ge_ii, neg_i, add_ii, sub_ii, max_ii, min_ii, add_ll, add_tt, sizeLine_eq, gTupD, gsCons, gsNil, gSet, notBor_eq, nbO_val, nbO_no, nbO_own, nbO_oc, ix_l, ix_t, Cell.mu?, Cell.lst?, Mu.lst?, len_l, len_t, eIsi, isi_pr, isiD, tyS, List.lookup, gTup_pr, ix_pr0, ix_pr1, at2_0, at2_1, D.fit, D.pure, pures, D.py, pys, PyData.depth, PyData.depthAll, at3_0, at3_1, at3_2, set3_0, set3_1, set3_2, set2_0, set2_1, eq_ii, ne_ii, eq_ss, ne_ss, eq_bb, ne_bb, int_i, abs_i, Cell.put, putAt, len_scr, isN_int, isN_non, oc_mu, oc_noX, nbO_oc, sTry, trS, exS, Sr.out, dropX, noExn, Cell.noX, eXf, eXis, sRaiseB, eMethN, eMethX, noKey, isIns, eConI, eMkKN, eMkKX, eMkX, eMk, eFld, fldD, sFor, fSeq, seqD, eSFld, sFldS, putK, pow6, pow15, pow18, pow20, pow30, pow31, eOpX, eOpN, gSqD, sParF, sParE, eCallK, sIns, eJs, joinE, FPart.ev, fmtD, eJoin, gPl, gNil, gSeq, gYield, gFor, fMethN, fMethX, onlyX, eMethKX, eMethKN, eCallKPX, eCallKPN, fMethFX, fMethKX, fMethKN])).trans ?_
      exact retE_ok q) rfl
  | a t e =>
    have q := kxN (l := 1) (k := 1) (gA := fun as bs => as ++ bs) (as := [.val (.str (tA t))]) (bs := [.val (.str (wE e))]) (os := [.ex (eVar 1)]) (kos := [.ex (eVar 4)]) (ρ := [.val (.str "answer"), .val (.str (tA t)), .val .non, .val .non, .val (.str (wE e))]) (evs1 rfl) (evs1 rfl) ⟨rfl, rfl⟩ (ans_mk t e _)
    unfold fn_l_wish sem_l_wish
    simp only [Wd.kd, Wd.tm, Wd.sh, Wd.ib, Wd.wd, Wd.en]
    exact fn_rt (by
      show sSeq t_l_wish_1 t_l_wish_2 [.val (.str "answer"), .val (.str (tA t)), .val .non, .val .non, .val (.str (wE e))] = _
      rw [seq_nx (ρ1 := [.val (.str "answer"), .val (.str (tA t)), .val .non, .val .non, .val (.str (wE e))]) (by unfold t_l_wish_1; simp [fnN, fnB, fnBF, sSeq, sRet, sRetF, sRetN, sIf, sSet, sNil, sExpr, sOwn, sPar, sAsg, sMut, sApp, sPut, eVar, eC, eOp, eCall, eAnd, eOr, eNot, eIf, eTup, eFr, fLst, Opd.ev, evs, Arg.dat, dats, vals?, op1, op2, appF, cells, Arg.cell, sls, wb, finC, eChain, bAnd, bOr, bNot, bBl, bTru, truth, lt_ii, le_ii, gt_ii, ge_ii, neg_i, add_ii, sub_ii, max_ii, min_ii, add_ll, add_tt, sizeLine_eq, gTupD, gsCons, gsNil, gSet, notBor_eq, nbO_val, nbO_no, nbO_own, nbO_oc, ix_l, ix_t, Cell.mu?, Cell.lst?, Mu.lst?, len_l, len_t, eIsi, isi_pr, isiD, tyS, List.lookup, gTup_pr, ix_pr0, ix_pr1, at2_0, at2_1, D.fit, D.pure, pures, D.py, pys, PyData.depth, PyData.depthAll, at3_0, at3_1, at3_2, set3_0, set3_1, set3_2, set2_0, set2_1, eq_ii, ne_ii, eq_ss, ne_ss, eq_bb, ne_bb, int_i, abs_i, Cell.put, putAt, len_scr, isN_int, isN_non, oc_mu, oc_noX, nbO_oc, sTry, trS, exS, Sr.out, dropX, noExn, Cell.noX, eXf, eXis, sRaiseB, eMethN, eMethX, noKey, isIns, eConI, eMkKN, eMkKX, eMkX, eMk, eFld, fldD, sFor, fSeq, seqD, eSFld, sFldS, putK, pow6, pow15, pow18, pow20, pow30, pow31, eOpX, eOpN, gSqD, sParF, sParE, eCallK, sIns, eJs, joinE, FPart.ev, fmtD, eJoin, gPl, gNil, gSeq, gYield, gFor, fMethN, fMethX, onlyX, eMethKX, eMethKN, eCallKPX, eCallKPN, fMethFX, fMethKX, fMethKN])]
      unfold t_l_wish_2
      exact retE_ok (eif_t (by simp [fnN, fnB, fnBF, sSeq, sRet, sRetF, sRetN, sIf, sSet, sNil, sExpr, sOwn, sPar, sAsg, sMut, sApp, sPut, eVar, eC, eOp, eCall, eAnd, eOr, eNot, eIf, eTup, eFr, fLst, Opd.ev, evs, Arg.dat, dats, vals?, op1, op2, appF, cells, Arg.cell, sls, wb, finC, eChain, bAnd, bOr, bNot, bBl, bTru, truth, lt_ii, le_ii, gt_ii, ge_ii, neg_i, add_ii, sub_ii, max_ii, min_ii, add_ll, add_tt, sizeLine_eq, gTupD, gsCons, gsNil, gSet, notBor_eq, nbO_val, nbO_no, nbO_own, nbO_oc, ix_l, ix_t, Cell.mu?, Cell.lst?, Mu.lst?, len_l, len_t, eIsi, isi_pr, isiD, tyS, List.lookup, gTup_pr, ix_pr0, ix_pr1, at2_0, at2_1, D.fit, D.pure, pures, D.py, pys, PyData.depth, PyData.depthAll, at3_0, at3_1, at3_2, set3_0, set3_1, set3_2, set2_0, set2_1, eq_ii, ne_ii, eq_ss, ne_ss, eq_bb, ne_bb, int_i, abs_i, Cell.put, putAt, len_scr, isN_int, isN_non, oc_mu, oc_noX, nbO_oc, sTry, trS, exS, Sr.out, dropX, noExn, Cell.noX, eXf, eXis, sRaiseB, eMethN, eMethX, noKey, isIns, eConI, eMkKN, eMkKX, eMkX, eMk, eFld, fldD, sFor, fSeq, seqD, eSFld, sFldS, putK, pow6, pow15, pow18, pow20, pow30, pow31, eOpX, eOpN, gSqD, sParF, sParE, eCallK, sIns, eJs, joinE, FPart.ev, fmtD, eJoin, gPl, gNil, gSeq, gYield, gFor, fMethN, fMethX, onlyX, eMethKX, eMethKN, eCallKPX, eCallKPN, fMethFX, fMethKX, fMethKN]) q)) rfl
  | n t e =>
    have q := kxN (l := 1) (k := 1) (gA := fun as bs => as ++ bs) (as := [.val (.str (tN t))]) (bs := [.val (.str (wE e))]) (os := [.ex (eVar 1)]) (kos := [.ex (eVar 4)]) (ρ := [.val (.str "number"), .val (.str (tN t)), .val .non, .val .non, .val (.str (wE e))]) (evs1 rfl) (evs1 rfl) ⟨rfl, rfl⟩ (num_mk t e _)
    unfold fn_l_wish sem_l_wish
    simp only [Wd.kd, Wd.tm, Wd.sh, Wd.ib, Wd.wd, Wd.en]
    exact fn_rt (by
      show sSeq t_l_wish_1 t_l_wish_2 [.val (.str "number"), .val (.str (tN t)), .val .non, .val .non, .val (.str (wE e))] = _
      rw [seq_nx (ρ1 := [.val (.str "number"), .val (.str (tN t)), .val .non, .val .non, .val (.str (wE e))]) (by unfold t_l_wish_1; simp [fnN, fnB, fnBF, sSeq, sRet, sRetF, sRetN, sIf, sSet, sNil, sExpr, sOwn, sPar, sAsg, sMut, sApp, sPut, eVar, eC, eOp, eCall, eAnd, eOr, eNot, eIf, eTup, eFr, fLst, Opd.ev, evs, Arg.dat, dats, vals?, op1, op2, appF, cells, Arg.cell, sls, wb, finC, eChain, bAnd, bOr, bNot, bBl, bTru, truth, lt_ii, le_ii, gt_ii, ge_ii, neg_i, add_ii, sub_ii, max_ii, min_ii, add_ll, add_tt, sizeLine_eq, gTupD, gsCons, gsNil, gSet, notBor_eq, nbO_val, nbO_no, nbO_own, nbO_oc, ix_l, ix_t, Cell.mu?, Cell.lst?, Mu.lst?, len_l, len_t, eIsi, isi_pr, isiD, tyS, List.lookup, gTup_pr, ix_pr0, ix_pr1, at2_0, at2_1, D.fit, D.pure, pures, D.py, pys, PyData.depth, PyData.depthAll, at3_0, at3_1, at3_2, set3_0, set3_1, set3_2, set2_0, set2_1, eq_ii, ne_ii, eq_ss, ne_ss, eq_bb, ne_bb, int_i, abs_i, Cell.put, putAt, len_scr, isN_int, isN_non, oc_mu, oc_noX, nbO_oc, sTry, trS, exS, Sr.out, dropX, noExn, Cell.noX, eXf, eXis, sRaiseB, eMethN, eMethX, noKey, isIns, eConI, eMkKN, eMkKX, eMkX, eMk, eFld, fldD, sFor, fSeq, seqD, eSFld, sFldS, putK, pow6, pow15, pow18, pow20, pow30, pow31, eOpX, eOpN, gSqD, sParF, sParE, eCallK, sIns, eJs, joinE, FPart.ev, fmtD, eJoin, gPl, gNil, gSeq, gYield, gFor, fMethN, fMethX, onlyX, eMethKX, eMethKN, eCallKPX, eCallKPN, fMethFX, fMethKX, fMethKN])]
      unfold t_l_wish_2
      exact retE_ok (eif_f (by simp [fnN, fnB, fnBF, sSeq, sRet, sRetF, sRetN, sIf, sSet, sNil, sExpr, sOwn, sPar, sAsg, sMut, sApp, sPut, eVar, eC, eOp, eCall, eAnd, eOr, eNot, eIf, eTup, eFr, fLst, Opd.ev, evs, Arg.dat, dats, vals?, op1, op2, appF, cells, Arg.cell, sls, wb, finC, eChain, bAnd, bOr, bNot, bBl, bTru, truth, lt_ii, le_ii, gt_ii, ge_ii, neg_i, add_ii, sub_ii, max_ii, min_ii, add_ll, add_tt, sizeLine_eq, gTupD, gsCons, gsNil, gSet, notBor_eq, nbO_val, nbO_no, nbO_own, nbO_oc, ix_l, ix_t, Cell.mu?, Cell.lst?, Mu.lst?, len_l, len_t, eIsi, isi_pr, isiD, tyS, List.lookup, gTup_pr, ix_pr0, ix_pr1, at2_0, at2_1, D.fit, D.pure, pures, D.py, pys, PyData.depth, PyData.depthAll, at3_0, at3_1, at3_2, set3_0, set3_1, set3_2, set2_0, set2_1, eq_ii, ne_ii, eq_ss, ne_ss, eq_bb, ne_bb, int_i, abs_i, Cell.put, putAt, len_scr, isN_int, isN_non, oc_mu, oc_noX, nbO_oc, sTry, trS, exS, Sr.out, dropX, noExn, Cell.noX, eXf, eXis, sRaiseB, eMethN, eMethX, noKey, isIns, eConI, eMkKN, eMkKX, eMkX, eMk, eFld, fldD, sFor, fSeq, seqD, eSFld, sFldS, putK, pow6, pow15, pow18, pow20, pow30, pow31, eOpX, eOpN, gSqD, sParF, sParE, eCallK, sIns, eJs, joinE, FPart.ev, fmtD, eJoin, gPl, gNil, gSeq, gYield, gFor, fMethN, fMethX, onlyX, eMethKX, eMethKN, eCallKPX, eCallKPN, fMethFX, fMethKX, fMethKN]) q)) rfl
/-! ### own ==, != -/
theorem moeq {t b s w t' b' s' w' : D} {p1 p2 p3 p4 : Bool} (h1 : eqD t t' = some (.bl p1)) (h2 : eqD b b' = some (.bl p2)) (h3 : eqD s s' = some (.bl p3)) (h4 : eqD w w' = some (.bl p4)) : fn_Moments_eq [.val (momD t b s w), .val (momD t' b' s' w')] = .ok (.bl (p1 && (p2 && (p3 && p4)))) [.val (momD t b s w), .val (momD t' b' s' w')] := by
  unfold fn_Moments_eq sem_Moments_eq momD
  cases p1 <;> cases p2 <;> cases p3 <;> cases p4 <;> simp [fnN, fnB, fnBF, sSeq, sRet, sRetF, sRetN, sIf, sSet, sNil, sExpr, sOwn, sPar, sAsg, sMut, sApp, sPut, eVar, eC, eOp, eCall, eAnd, eOr, eNot, eIf, eTup, eFr, fLst, Opd.ev, evs, Arg.dat, dats, vals?, op1, op2, appF, cells, Arg.cell, sls, wb, finC, eChain, bAnd, bOr, bNot, bBl, bTru, truth, lt_ii, le_ii, gt_ii, ge_ii, neg_i, add_ii, sub_ii, max_ii, min_ii, add_ll, add_tt, sizeLine_eq, gTupD, gsCons, gsNil, gSet, notBor_eq, nbO_val, nbO_no, nbO_own, nbO_oc, ix_l, ix_t, Cell.mu?, Cell.lst?, Mu.lst?, len_l, len_t, eIsi, isi_pr, isiD, tyS, List.lookup, gTup_pr, ix_pr0, ix_pr1, at2_0, at2_1, D.fit, D.pure, pures, D.py, pys, PyData.depth, PyData.depthAll, at3_0, at3_1, at3_2, set3_0, set3_1, set3_2, set2_0, set2_1, eq_ii, ne_ii, eq_ss, ne_ss, eq_bb, ne_bb, int_i, abs_i, Cell.put, putAt, len_scr, isN_int, isN_non, oc_mu, oc_noX, nbO_oc, sTry, trS, exS, Sr.out, dropX, noExn, Cell.noX, eXf, eXis, sRaiseB, eMethN, eMethX, noKey, isIns, eConI, eMkKN, eMkKX, eMkX, eMk, eFld, fldD, sFor, fSeq, seqD, eSFld, sFldS, putK, pow6, pow15, pow18, pow20, pow30, pow31, eOpX, eOpN, gSqD, sParF, sParE, eCallK, sIns, eJs, joinE, FPart.ev, fmtD, eJoin, gPl, gNil, gSeq, gYield, gFor, fMethN, fMethX, onlyX, eMethKX, eMethKN, eCallKPX, eCallKPN, fMethFX, fMethKX, fMethKN, t_Moments_eq_1, ow_Moments, tb_own, h1, h2, h3, h4]
theorem aneq {t w t' w' : D} {p1 p4 : Bool} (h1 : eqD t t' = some (.bl p1)) (h4 : eqD w w' = some (.bl p4)) : fn_Answer_eq [.val (ansD t w), .val (ansD t' w')] = .ok (.bl (p1 && p4)) [.val (ansD t w), .val (ansD t' w')] := by
  unfold fn_Answer_eq sem_Answer_eq ansD
  cases p1 <;> cases p4 <;> simp [fnN, fnB, fnBF, sSeq, sRet, sRetF, sRetN, sIf, sSet, sNil, sExpr, sOwn, sPar, sAsg, sMut, sApp, sPut, eVar, eC, eOp, eCall, eAnd, eOr, eNot, eIf, eTup, eFr, fLst, Opd.ev, evs, Arg.dat, dats, vals?, op1, op2, appF, cells, Arg.cell, sls, wb, finC, eChain, bAnd, bOr, bNot, bBl, bTru, truth, lt_ii, le_ii, gt_ii, ge_ii, neg_i, add_ii, sub_ii, max_ii, min_ii, add_ll, add_tt, sizeLine_eq, gTupD, gsCons, gsNil, gSet, notBor_eq, nbO_val, nbO_no, nbO_own, nbO_oc, ix_l, ix_t, Cell.mu?, Cell.lst?, Mu.lst?, len_l, len_t, eIsi, isi_pr, isiD, tyS, List.lookup, gTup_pr, ix_pr0, ix_pr1, at2_0, at2_1, D.fit, D.pure, pures, D.py, pys, PyData.depth, PyData.depthAll, at3_0, at3_1, at3_2, set3_0, set3_1, set3_2, set2_0, set2_1, eq_ii, ne_ii, eq_ss, ne_ss, eq_bb, ne_bb, int_i, abs_i, Cell.put, putAt, len_scr, isN_int, isN_non, oc_mu, oc_noX, nbO_oc, sTry, trS, exS, Sr.out, dropX, noExn, Cell.noX, eXf, eXis, sRaiseB, eMethN, eMethX, noKey, isIns, eConI, eMkKN, eMkKX, eMkX, eMk, eFld, fldD, sFor, fSeq, seqD, eSFld, sFldS, putK, pow6, pow15, pow18, pow20, pow30, pow31, eOpX, eOpN, gSqD, sParF, sParE, eCallK, sIns, eJs, joinE, FPart.ev, fmtD, eJoin, gPl, gNil, gSeq, gYield, gFor, fMethN, fMethX, onlyX, eMethKX, eMethKN, eCallKPX, eCallKPN, fMethFX, fMethKX, fMethKN, t_Answer_eq_1, ow_Answer, tb_own, h1, h4]
theorem nueq {t w t' w' : D} {p1 p4 : Bool} (h1 : eqD t t' = some (.bl p1)) (h4 : eqD w w' = some (.bl p4)) : fn_Number_eq [.val (numD t w), .val (numD t' w')] = .ok (.bl (p1 && p4)) [.val (numD t w), .val (numD t' w')] := by
  unfold fn_Number_eq sem_Number_eq numD
  cases p1 <;> cases p4 <;> simp [fnN, fnB, fnBF, sSeq, sRet, sRetF, sRetN, sIf, sSet, sNil, sExpr, sOwn, sPar, sAsg, sMut, sApp, sPut, eVar, eC, eOp, eCall, eAnd, eOr, eNot, eIf, eTup, eFr, fLst, Opd.ev, evs, Arg.dat, dats, vals?, op1, op2, appF, cells, Arg.cell, sls, wb, finC, eChain, bAnd, bOr, bNot, bBl, bTru, truth, lt_ii, le_ii, gt_ii, ge_ii, neg_i, add_ii, sub_ii, max_ii, min_ii, add_ll, add_tt, sizeLine_eq, gTupD, gsCons, gsNil, gSet, notBor_eq, nbO_val, nbO_no, nbO_own, nbO_oc, ix_l, ix_t, Cell.mu?, Cell.lst?, Mu.lst?, len_l, len_t, eIsi, isi_pr, isiD, tyS, List.lookup, gTup_pr, ix_pr0, ix_pr1, at2_0, at2_1, D.fit, D.pure, pures, D.py, pys, PyData.depth, PyData.depthAll, at3_0, at3_1, at3_2, set3_0, set3_1, set3_2, set2_0, set2_1, eq_ii, ne_ii, eq_ss, ne_ss, eq_bb, ne_bb, int_i, abs_i, Cell.put, putAt, len_scr, isN_int, isN_non, oc_mu, oc_noX, nbO_oc, sTry, trS, exS, Sr.out, dropX, noExn, Cell.noX, eXf, eXis, sRaiseB, eMethN, eMethX, noKey, isIns, eConI, eMkKN, eMkKX, eMkX, eMk, eFld, fldD, sFor, fSeq, seqD, eSFld, sFldS, putK, pow6, pow15, pow18, pow20, pow30, pow31, eOpX, eOpN, gSqD, sParF, sParE, eCallK, sIns, eJs, joinE, FPart.ev, fmtD, eJoin, gPl, gNil, gSeq, gYield, gFor, fMethN, fMethX, onlyX, eMethKX, eMethKN, eCallKPX, eCallKPN, fMethFX, fMethKX, fMethKN, t_Number_eq_1, ow_Number, tb_own, h1, h4]
abbrev ES : List Str := ["Moments", "Answer", "Number", "Loop"]
def EqAns (W : Wd) (y : D) (b : Bool) : Prop := eqOk ES y = true ∧ W.eqF [.val W.wish, .val y] = .ok (.bl b) [.val W.wish, .val y]
theorem ans_str (W : Wd) (s : Str) : EqAns W (.str s) false := by
  refine ⟨rfl, ?_⟩
  cases W
  · unfold Wd.eqF Wd.wish fn_Moments_eq sem_Moments_eq momD
    simp [fnN, fnB, fnBF, sSeq, sRet, sRetF, sRetN, sIf, sSet, sNil, sExpr, sOwn, sPar, sAsg, sMut, sApp, sPut, eVar, eC, eOp, eCall, eAnd, eOr, eNot, eIf, eTup, eFr, fLst, Opd.ev, evs, Arg.dat, dats, vals?, op1, op2, appF, cells, Arg.cell, sls, wb, finC, eChain, bAnd, bOr, bNot, bBl, bTru, truth, lt_ii, le_ii, gt_ii, ge_ii, neg_i, add_ii, sub_ii, max_ii, min_ii, add_ll, add_tt, sizeLine_eq, gTupD, gsCons, gsNil, gSet, notBor_eq, nbO_val, nbO_no, nbO_own, nbO_oc, ix_l, ix_t, Cell.mu?, Cell.lst?, Mu.lst?, len_l, len_t, eIsi, isi_pr, isiD, tyS, List.lookup, gTup_pr, ix_pr0, ix_pr1, at2_0, at2_1, D.fit, D.pure, pures, D.py, pys, PyData.depth, PyData.depthAll, at3_0, at3_1, at3_2, set3_0, set3_1, set3_2, set2_0, set2_1, eq_ii, ne_ii, eq_ss, ne_ss, eq_bb, ne_bb, int_i, abs_i, Cell.put, putAt, len_scr, isN_int, isN_non, oc_mu, oc_noX, nbO_oc, sTry, trS, exS, Sr.out, dropX, noExn, Cell.noX, eXf, eXis, sRaiseB, eMethN, eMethX, noKey, isIns, eConI, eMkKN, eMkKX, eMkX, eMk, eFld, fldD, sFor, fSeq, seqD, eSFld, sFldS, putK, pow6, pow15, pow18, pow20, pow30, pow31, eOpX, eOpN, gSqD, sParF, sParE, eCallK, sIns, eJs, joinE, FPart.ev, fmtD, eJoin, gPl, gNil, gSeq, gYield, gFor, fMethN, fMethX, onlyX, eMethKX, eMethKN, eCallKPX, eCallKPN, fMethFX, fMethKX, fMethKN, t_Moments_eq_1, ow_Moments, tb_own]
  · unfold Wd.eqF Wd.wish fn_Answer_eq sem_Answer_eq ansD
    simp [fnN, fnB, fnBF, sSeq, sRet, sRetF, sRetN, sIf, sSet, sNil, sExpr, sOwn, sPar, sAsg, sMut, sApp, sPut, eVar, eC, eOp, eCall, eAnd, eOr, eNot, eIf, eTup, eFr, fLst, Opd.ev, evs, Arg.dat, dats, vals?, op1, op2, appF, cells, Arg.cell, sls, wb, finC, eChain, bAnd, bOr, bNot, bBl, bTru, truth, lt_ii, le_ii, gt_ii, ge_ii, neg_i, add_ii, sub_ii, max_ii, min_ii, add_ll, add_tt, sizeLine_eq, gTupD, gsCons, gsNil, gSet, notBor_eq, nbO_val, nbO_no, nbO_own, nbO_oc, ix_l, ix_t, Cell.mu?, Cell.lst?, Mu.lst?, len_l, len_t, eIsi, isi_pr, isiD, tyS, List.lookup, gTup_pr, ix_pr0, ix_pr1, at2_0, at2_1, D.fit, D.pure, pures, D.py, pys, PyData.depth, PyData.depthAll, at3_0, at3_1, at3_2, set3_0, set3_1, set3_2, set2_0, set2_1, eq_ii, ne_ii, eq_ss, ne_ss, eq_bb, ne_bb, int_i, abs_i, Cell.put, putAt, len_scr, isN_int, isN_non, oc_mu, oc_noX, nbO_oc, sTry, trS, exS, Sr.out, dropX, noExn, Cell.noX, eXf, eXis, sRaiseB, eMethN, eMethX, noKey, isIns, eConI, eMkKN, eMkKX, eMkX, eMk, eFld, fldD, sFor, fSeq, seqD, eSFld, sFldS, putK, pow6, pow15, pow18, pow20, pow30, pow31, eOpX, eOpN, gSqD, sParF, sParE, eCallK, sIns, eJs, joinE, FPart.ev, fmtD, eJoin, gPl, gNil, gSeq, gYield, gFor, fMethN, fMethX, onlyX, eMethKX, eMethKN, eCallKPX, eCallKPN, fMethFX, fMethKX, fMethKN, t_Answer_eq_1, ow_Answer, tb_own]
  · unfold Wd.eqF Wd.wish fn_Number_eq sem_Number_eq numD
    simp [fnN, fnB, fnBF, sSeq, sRet, sRetF, sRetN, sIf, sSet, sNil, sExpr, sOwn, sPar, sAsg, sMut, sApp, sPut, eVar, eC, eOp, eCall, eAnd, eOr, eNot, eIf, eTup, eFr, fLst, Opd.ev, evs, Arg.dat, dats, vals?, op1, op2, appF, cells, Arg.cell, sls, wb, finC, eChain, bAnd, bOr, bNot, bBl, bTru, truth, lt_ii, le_ii, gt_ii, ge_ii, neg_i, add_ii, sub_ii, max_ii, min_ii, add_ll, add_tt, sizeLine_eq, gTupD, gsCons, gsNil, gSet, notBor_eq, nbO_val, nbO_no, nbO_own, nbO_oc, ix_l, ix_t, Cell.mu?, Cell.lst?, Mu.lst?, len_l, len_t, eIsi, isi_pr, isiD, tyS, List.lookup, gTup_pr, ix_pr0, ix_pr1, at2_0, at2_1, D.fit, D.pure, pures, D.py, pys, PyData.depth, PyData.depthAll, at3_0, at3_1, at3_2, set3_0, set3_1, set3_2, set2_0, set2_1, eq_ii, ne_ii, eq_ss, ne_ss, eq_bb, ne_bb, int_i, abs_i, Cell.put, putAt, len_scr, isN_int, isN_non, oc_mu, oc_noX, nbO_oc, sTry, trS, exS, Sr.out, dropX, noExn, Cell.noX, eXf, eXis, sRaiseB, eMethN, eMethX, noKey, isIns, eConI, eMkKN, eMkKX, eMkX, eMk, eFld, fldD, sFor, fSeq, seqD, eSFld, sFldS, putK, pow6, pow15, pow18, pow20, pow30, pow31, eOpX, eOpN, gSqD, sParF, sParE, eCallK, sIns, eJs, joinE, FPart.ev, fmtD, eJoin, gPl, gNil, gSeq, gYield, gFor, fMethN, fMethX, onlyX, eMethKX, eMethKN, eCallKPX, eCallKPN, fMethFX, fMethKX, fMethKN, t_Number_eq_1, ow_Number, tb_own]
theorem ans_non (W : Wd) : EqAns W .non false := by
  refine ⟨rfl, ?_⟩
  cases W
  · unfold Wd.eqF Wd.wish fn_Moments_eq sem_Moments_eq momD
    simp [fnN, fnB, fnBF, sSeq, sRet, sRetF, sRetN, sIf, sSet, sNil, sExpr, sOwn, sPar, sAsg, sMut, sApp, sPut, eVar, eC, eOp, eCall, eAnd, eOr, eNot, eIf, eTup, eFr, fLst, Opd.ev, evs, Arg.dat, dats, vals?, op1, op2, appF, cells, Arg.cell, sls, wb, finC, eChain, bAnd, bOr, bNot, bBl, bTru, truth, lt_ii, le_ii, gt_ii, ge_ii, neg_i, add_ii, sub_ii, max_ii, min_ii, add_ll, add_tt, sizeLine_eq, gTupD, gsCons, gsNil, gSet, notBor_eq, nbO_val, nbO_no, nbO_own, nbO_oc, ix_l, ix_t, Cell.mu?, Cell.lst?, Mu.lst?, len_l, len_t, eIsi, isi_pr, isiD, tyS, List.lookup, gTup_pr, ix_pr0, ix_pr1, at2_0, at2_1, D.fit, D.pure, pures, D.py, pys, PyData.depth, PyData.depthAll, at3_0, at3_1, at3_2, set3_0, set3_1, set3_2, set2_0, set2_1, eq_ii, ne_ii, eq_ss, ne_ss, eq_bb, ne_bb, int_i, abs_i, Cell.put, putAt, len_scr, isN_int, isN_non, oc_mu, oc_noX, nbO_oc, sTry, trS, exS, Sr.out, dropX, noExn, Cell.noX, eXf, eXis, sRaiseB, eMethN, eMethX, noKey, isIns, eConI, eMkKN, eMkKX, eMkX, eMk, eFld, fldD, sFor, fSeq, seqD, eSFld, sFldS, putK, pow6, pow15, pow18, pow20, pow30, pow31, eOpX, eOpN, gSqD, sParF, sParE, eCallK, sIns, eJs, joinE, FPart.ev, fmtD, eJoin, gPl, gNil, gSeq, gYield, gFor, fMethN, fMethX, onlyX, eMethKX, eMethKN, eCallKPX, eCallKPN, fMethFX, fMethKX, fMethKN, t_Moments_eq_1, ow_Moments, tb_own]
  · unfold Wd.eqF Wd.wish fn_Answer_eq sem_Answer_eq ansD
    simp [fnN, fnB, fnBF, sSeq, sRet, sRetF, sRetN, sIf, sSet, sNil, sExpr, sOwn, sPar, sAsg, sMut, sApp, sPut, eVar, eC, eOp, eCall, eAnd, eOr, eNot, eIf, eTup, eFr, fLst, Opd.ev, evs, Arg.dat, dats, vals?, op1, op2, appF, cells, Arg.cell, sls, wb, finC, eChain, bAnd, bOr, bNot, bBl, bTru, truth, lt_ii, le_ii, gt_ii, ge_ii, neg_i, add_ii, sub_ii, max_ii, min_ii, add_ll, add_tt, sizeLine_eq, gTupD, gsCons, gsNil, gSet, notBor_eq, nbO_val, nbO_no, nbO_own, nbO_oc, ix_l, ix_t, Cell.mu?, Cell.lst?, Mu.lst?, len_l, len_t, eIsi, isi_pr, isiD, tyS, List.lookup, gTup_pr, ix_pr0, ix_pr1, at2_0, at2_1, D.fit, D.pure, pures, D.py, pys, PyData.depth, PyData.depthAll, at3_0, at3_1, at3_2, set3_0, set3_1, set3_2, set2_0, set2_1, eq_ii, ne_ii, eq_ss, ne_ss, eq_bb, ne_bb, int_i, abs_i, Cell.put, putAt, len_scr, isN_int, isN_non, oc_mu, oc_noX, nbO_oc, sTry, trS, exS, Sr.out, dropX, noExn, Cell.noX, eXf, eXis, sRaiseB, eMethN, eMethX, noKey, isIns, eConI, eMkKN, eMkKX, eMkX, eMk, eFld, fldD, sFor, fSeq, seqD, eSFld, sFldS, putK, pow6, pow15, pow18, pow20, pow30, pow31, eOpX, eOpN, gSqD, sParF, sParE, eCallK, sIns, eJs, joinE, FPart.ev, fmtD, eJoin, gPl, gNil, gSeq, gYield, gFor, fMethN, fMethX, onlyX, eMethKX, eMethKN, eCallKPX, eCallKPN, fMethFX, fMethKX, fMethKN, t_Answer_eq_1, ow_Answer, tb_own]
  · unfold Wd.eqF Wd.wish fn_Number_eq sem_Number_eq numD
    simp [fnN, fnB, fnBF, sSeq, sRet, sRetF, sRetN, sIf, sSet, sNil, sExpr, sOwn, sPar, sAsg, sMut, sApp, sPut, eVar, eC, eOp, eCall, eAnd, eOr, eNot, eIf, eTup, eFr, fLst, Opd.ev, evs, Arg.dat, dats, vals?, op1, op2, appF, cells, Arg.cell, sls, wb, finC, eChain, bAnd, bOr, bNot, bBl, bTru, truth, lt_ii, le_ii, gt_ii, ge_ii, neg_i, add_ii, sub_ii, max_ii, min_ii, add_ll, add_tt, sizeLine_eq, gTupD, gsCons, gsNil, gSet, notBor_eq, nbO_val, nbO_no, nbO_own, nbO_oc, ix_l, ix_t, Cell.mu?, Cell.lst?, Mu.lst?, len_l, len_t, eIsi, isi_pr, isiD, tyS, List.lookup, gTup_pr, ix_pr0, ix_pr1, at2_0, at2_1, D.fit, D.pure, pures, D.py, pys, PyData.depth, PyData.depthAll, at3_0, at3_1, at3_2, set3_0, set3_1, set3_2, set2_0, set2_1, eq_ii, ne_ii, eq_ss, ne_ss, eq_bb, ne_bb, int_i, abs_i, Cell.put, putAt, len_scr, isN_int, isN_non, oc_mu, oc_noX, nbO_oc, sTry, trS, exS, Sr.out, dropX, noExn, Cell.noX, eXf, eXis, sRaiseB, eMethN, eMethX, noKey, isIns, eConI, eMkKN, eMkKX, eMkX, eMk, eFld, fldD, sFor, fSeq, seqD, eSFld, sFldS, putK, pow6, pow15, pow18, pow20, pow30, pow31, eOpX, eOpN, gSqD, sParF, sParE, eCallK, sIns, eJs, joinE, FPart.ev, fmtD, eJoin, gPl, gNil, gSeq, gYield, gFor, fMethN, fMethX, onlyX, eMethKX, eMethKN, eCallKPX, eCallKPN, fMethFX, fMethKX, fMethKN, t_Number_eq_1, ow_Number, tb_own]
theorem okES (W : Wd) : eqOk ES W.wish = true := by
  cases W <;> (simp only [Wd.wish, momD, ansD, numD, eqOk, ES]; decide)
theorem ans_ww (W W' : Wd) : EqAns W W'.wish (decide (W = W')) := by
  refine ⟨okES W', ?_⟩
  cases W <;> cases W'
  · rename_i t s b e t' s' b' e'
    have q := moeq (tM_eq t t') (bl_eq b b') (sM_eq s s') (wE_eq e e')
    refine q.trans ?_
    have : (decide (t = t') && (decide (b = b') && (decide (s = s') && decide (e = e')))) = decide (Wd.m t s b e = Wd.m t' s' b' e') := by
      rw [Bool.eq_iff_iff]; simp; intro _; exact ⟨fun ⟨a, b, c⟩ => ⟨b, a, c⟩, fun ⟨a, b, c⟩ => ⟨b, a, c⟩⟩
    rw [this]; rfl
  · unfold Wd.eqF Wd.wish fn_Moments_eq sem_Moments_eq momD ansD
    simp [fnN, fnB, fnBF, sSeq, sRet, sRetF, sRetN, sIf, sSet, sNil, sExpr, sOwn, sPar, sAsg, sMut, sApp, sPut, eVar, eC, eOp, eCall, eAnd, eOr, eNot, eIf, eTup, eFr, fLst, Opd.ev, evs, Arg.dat, dats, vals?, op1, op2, appF, cells, Arg.cell, sls, wb, finC, eChain, bAnd, bOr, bNot, bBl, bTru, truth, lt_ii, le_ii, gt_ii, ge_ii, neg_i, add_ii, sub_ii, max_ii, min_ii, add_ll, add_tt, sizeLine_eq, gTupD, gsCons, gsNil, gSet, notBor_eq, nbO_val, nbO_no, nbO_own, nbO_oc, ix_l, ix_t, Cell.mu?, Cell.lst?, Mu.lst?, len_l, len_t, eIsi, isi_pr, isiD, tyS, List.lookup, gTup_pr, ix_pr0, ix_pr1, at2_0, at2_1, D.fit, D.pure, pures, D.py, pys, PyData.depth, PyData.depthAll, at3_0, at3_1, at3_2, set3_0, set3_1, set3_2, set2_0, set2_1, eq_ii, ne_ii, eq_ss, ne_ss, eq_bb, ne_bb, int_i, abs_i, Cell.put, putAt, len_scr, isN_int, isN_non, oc_mu, oc_noX, nbO_oc, sTry, trS, exS, Sr.out, dropX, noExn, Cell.noX, eXf, eXis, sRaiseB, eMethN, eMethX, noKey, isIns, eConI, eMkKN, eMkKX, eMkX, eMk, eFld, fldD, sFor, fSeq, seqD, eSFld, sFldS, putK, pow6, pow15, pow18, pow20, pow30, pow31, eOpX, eOpN, gSqD, sParF, sParE, eCallK, sIns, eJs, joinE, FPart.ev, fmtD, eJoin, gPl, gNil, gSeq, gYield, gFor, fMethN, fMethX, onlyX, eMethKX, eMethKN, eCallKPX, eCallKPN, fMethFX, fMethKX, fMethKN, t_Moments_eq_1, ow_Moments, tb_own]
  · unfold Wd.eqF Wd.wish fn_Moments_eq sem_Moments_eq momD numD
    simp [fnN, fnB, fnBF, sSeq, sRet, sRetF, sRetN, sIf, sSet, sNil, sExpr, sOwn, sPar, sAsg, sMut, sApp, sPut, eVar, eC, eOp, eCall, eAnd, eOr, eNot, eIf, eTup, eFr, fLst, Opd.ev, evs, Arg.dat, dats, vals?, op1, op2, appF, cells, Arg.cell, sls, wb, finC, eChain, bAnd, bOr, bNot, bBl, bTru, truth, lt_ii, le_ii, gt_ii, ge_ii, neg_i, add_ii, sub_ii, max_ii, min_ii, add_ll, add_tt, sizeLine_eq, gTupD, gsCons, gsNil, gSet, notBor_eq, nbO_val, nbO_no, nbO_own, nbO_oc, ix_l, ix_t, Cell.mu?, Cell.lst?, Mu.lst?, len_l, len_t, eIsi, isi_pr, isiD, tyS, List.lookup, gTup_pr, ix_pr0, ix_pr1, at2_0, at2_1, D.fit, D.pure, pures, D.py, pys, PyData.depth, PyData.depthAll, at3_0, at3_1, at3_2, set3_0, set3_1, set3_2, set2_0, set2_1, eq_ii, ne_ii, eq_ss, ne_ss, eq_bb, ne_bb, int_i, abs_i, Cell.put, putAt, len_scr, isN_int, isN_non, oc_mu, oc_noX, nbO_oc, sTry, trS, exS, Sr.out, dropX, noExn, Cell.noX, eXf, eXis, sRaiseB, eMethN, eMethX, noKey, isIns, eConI, eMkKN, eMkKX, eMkX, eMk, eFld, fldD, sFor, fSeq, seqD, eSFld, sFldS, putK, pow6, pow15, pow18, pow20, pow30, pow31, eOpX, eOpN, gSqD, sParF, sParE, eCallK, sIns, eJs, joinE, FPart.ev, fmtD, eJoin, gPl, gNil, gSeq, gYield, gFor, fMethN, fMethX, onlyX, eMethKX, eMethKN, eCallKPX, eCallKPN, fMethFX, fMethKX, fMethKN, t_Moments_eq_1, ow_Moments, tb_own]
  · unfold Wd.eqF Wd.wish fn_Answer_eq sem_Answer_eq momD ansD
    simp [fnN, fnB, fnBF, sSeq, sRet, sRetF, sRetN, sIf, sSet, sNil, sExpr, sOwn, sPar, sAsg, sMut, sApp, sPut, eVar, eC, eOp, eCall, eAnd, eOr, eNot, eIf, eTup, eFr, fLst, Opd.ev, evs, Arg.dat, dats, vals?, op1, op2, appF, cells, Arg.cell, sls, wb, finC, eChain, bAnd, bOr, bNot, bBl, bTru, truth, lt_ii, le_ii, gt_ii, ge_ii, neg_i, add_ii, sub_ii, max_ii, min_ii, add_ll, add_tt, sizeLine_eq, gTupD, gsCons, gsNil, gSet, notBor_eq, nbO_val, nbO_no, nbO_own, nbO_oc, ix_l, ix_t, Cell.mu?, Cell.lst?, Mu.lst?, len_l, len_t, eIsi, isi_pr, isiD, tyS, List.lookup, gTup_pr, ix_pr0, ix_pr1, at2_0, at2_1, D.fit, D.pure, pures, D.py, pys, PyData.depth, PyData.depthAll, at3_0, at3_1, at3_2, set3_0, set3_1, set3_2, set2_0, set2_1, eq_ii, ne_ii, eq_ss, ne_ss, eq_bb, ne_bb, int_i, abs_i, Cell.put, putAt, len_scr, isN_int, isN_non, oc_mu, oc_noX, nbO_oc, sTry, trS, exS, Sr.out, dropX, noExn, Cell.noX, eXf, eXis, sRaiseB, eMethN, eMethX, noKey, isIns, eConI, eMkKN, eMkKX, eMkX, eMk, eFld, fldD, sFor, fSeq, seqD, eSFld, sFldS, putK, pow6, pow15, pow18, pow20, pow30, pow31, eOpX, eOpN, gSqD, sParF, sParE, eCallK, sIns, eJs, joinE, FPart.ev, fmtD, eJoin, gPl, gNil, gSeq, gYield, gFor, fMethN, fMethX, onlyX, eMethKX, eMethKN, eCallKPX, eCallKPN, fMethFX, fMethKX, fMethKN, t_Answer_eq_1, ow_Answer, tb_own]
  · rename_i t e t' e'
    refine (aneq (tA_eq t t') (wE_eq e e')).trans ?_
    have : (decide (t = t') && decide (e = e')) = decide (Wd.a t e = Wd.a t' e') := by
      rw [Bool.eq_iff_iff]; simp
    rw [this]; rfl
  · unfold Wd.eqF Wd.wish fn_Answer_eq sem_Answer_eq numD ansD
    simp [fnN, fnB, fnBF, sSeq, sRet, sRetF, sRetN, sIf, sSet, sNil, sExpr, sOwn, sPar, sAsg, sMut, sApp, sPut, eVar, eC, eOp, eCall, eAnd, eOr, eNot, eIf, eTup, eFr, fLst, Opd.ev, evs, Arg.dat, dats, vals?, op1, op2, appF, cells, Arg.cell, sls, wb, finC, eChain, bAnd, bOr, bNot, bBl, bTru, truth, lt_ii, le_ii, gt_ii, ge_ii, neg_i, add_ii, sub_ii, max_ii, min_ii, add_ll, add_tt, sizeLine_eq, gTupD, gsCons, gsNil, gSet, notBor_eq, nbO_val, nbO_no, nbO_own, nbO_oc, ix_l, ix_t, Cell.mu?, Cell.lst?, Mu.lst?, len_l, len_t, eIsi, isi_pr, isiD, tyS, List.lookup, gTup_pr, ix_pr0, ix_pr1, at2_0, at2_1, D.fit, D.pure, pures, D.py, pys, PyData.depth, PyData.depthAll, at3_0, at3_1, at3_2, set3_0, set3_1, set3_2, set2_0, set2_1, eq_ii, ne_ii, eq_ss, ne_ss, eq_bb, ne_bb, int_i, abs_i, Cell.put, putAt, len_scr, isN_int, isN_non, oc_mu, oc_noX, nbO_oc, sTry, trS, exS, Sr.out, dropX, noExn, Cell.noX, eXf, eXis, sRaiseB, eMethN, eMethX, noKey, isIns, eConI, eMkKN, eMkKX, eMkX, eMk, eFld, fldD, sFor, fSeq, seqD, eSFld, sFldS, putK, pow6, pow15, pow18, pow20, pow30, pow31, eOpX, eOpN, gSqD, sParF, sParE, eCallK, sIns, eJs, joinE, FPart.ev, fmtD, eJoin, gPl, gNil, gSeq, gYield, gFor, fMethN, fMethX, onlyX, eMethKX, eMethKN, eCallKPX, eCallKPN, fMethFX, fMethKX, fMethKN, t_Answer_eq_1, ow_Answer, tb_own]
  · unfold Wd.eqF Wd.wish fn_Number_eq sem_Number_eq numD momD
    simp [fnN, fnB, fnBF, sSeq, sRet, sRetF, sRetN, sIf, sSet, sNil, sExpr, sOwn, sPar, sAsg, sMut, sApp, sPut, eVar, eC, eOp, eCall, eAnd, eOr, eNot, eIf, eTup, eFr, fLst, Opd.ev, evs, Arg.dat, dats, vals?, op1, op2, appF, cells, Arg.cell, sls, wb, finC, eChain, bAnd, bOr, bNot, bBl, bTru, truth, lt_ii, le_ii, gt_ii, ge_ii, neg_i, add_ii, sub_ii, max_ii, min_ii, add_ll, add_tt, sizeLine_eq, gTupD, gsCons, gsNil, gSet, notBor_eq, nbO_val, nbO_no, nbO_own, nbO_oc, ix_l, ix_t, Cell.mu?, Cell.lst?, Mu.lst?, len_l, len_t, eIsi, isi_pr, isiD, tyS, List.lookup, gTup_pr, ix_pr0, ix_pr1, at2_0, at2_1, D.fit, D.pure, pures, D.py, pys, PyData.depth, PyData.depthAll, at3_0, at3_1, at3_2, set3_0, set3_1, set3_2, set2_0, set2_1, eq_ii, ne_ii, eq_ss, ne_ss, eq_bb, ne_bb, int_i, abs_i, Cell.put, putAt, len_scr, isN_int, isN_non, oc_mu, oc_noX, nbO_oc, sTry, trS, exS, Sr.out, dropX, noExn, Cell.noX, eXf, eXis, sRaiseB, eMethN, eMethX, noKey, isIns, eConI, eMkKN, eMkKX, eMkX, eMk, eFld, fldD, sFor, fSeq, seqD, eSFld, sFldS, putK, pow6, pow15, pow18, pow20, pow30, pow31, eOpX, eOpN, gSqD, sParF, sParE, eCallK, sIns, eJs, joinE, FPart.ev, fmtD, eJoin, gPl, gNil, gSeq, gYield, gFor, fMethN, fMethX, onlyX, eMethKX, eMethKN, eCallKPX, eCallKPN, fMethFX, fMethKX, fMethKN, t_Number_eq_1, ow_Number, tb_own]
  · unfold Wd.eqF Wd.wish fn_Number_eq sem_Number_eq numD ansD
    simp [fnN, fnB, fnBF, sSeq, sRet, sRetF, sRetN, sIf, sSet, sNil, sExpr, sOwn, sPar, sAsg, sMut, sApp, sPut, eVar, eC, eOp, eCall, eAnd, eOr, eNot, eIf, eTup, eFr, fLst, Opd.ev, evs, Arg.dat, dats, vals?, op1, op2, appF, cells, Arg.cell, sls, wb, finC, eChain, bAnd, bOr, bNot, bBl, bTru, truth, lt_ii, le_ii, gt_ii, ge_ii, neg_i, add_ii, sub_ii, max_ii, min_ii, add_ll, add_tt, sizeLine_eq, gTupD, gsCons, gsNil, gSet, notBor_eq, nbO_val, nbO_no, nbO_own, nbO_oc, ix_l, ix_t, Cell.mu?, Cell.lst?, Mu.lst?, len_l, len_t, eIsi, isi_pr, isiD, tyS, List.lookup, gTup_pr, ix_pr0, ix_pr1, at2_0, at2_1, D.fit, D.pure, pures, D.py, pys, PyData.depth, PyData.depthAll, at3_0, at3_1, at3_2, set3_0, set3_1, set3_2, set2_0, set2_1, eq_ii, ne_ii, eq_ss, ne_ss, eq_bb, ne_bb, int_i, abs_i, Cell.put, putAt, len_scr, isN_int, isN_non, oc_mu, oc_noX, nbO_oc, sTry, trS, exS, Sr.out, dropX, noExn, Cell.noX, eXf, eXis, sRaiseB, eMethN, eMethX, noKey, isIns, eConI, eMkKN, eMkKX, eMkX, eMk, eFld, fldD, sFor, fSeq, seqD, eSFld, sFldS, putK, pow6, pow15, pow18, pow20, pow30, pow31, eOpX, eOpN, gSqD, sParF, sParE, eCallK, sIns, eJs, joinE, FPart.ev, fmtD, eJoin, gPl, gNil, gSeq, gYield, gFor, fMethN, fMethX, onlyX, eMethKX, eMethKN, eCallKPX, eCallKPN, fMethFX, fMethKX, fMethKN, t_Number_eq_1, ow_Number, tb_own]
  · rename_i t e t' e'
    refine (nueq (tN_eq t t') (wE_eq e e')).trans ?_
    have : (decide (t = t') && decide (e = e')) = decide (Wd.n t e = Wd.n t' e') := by
      rw [Bool.eq_iff_iff]; simp
    rw [this]; rfl
theorem oeq_y {c : Str} {fn : List Cell → Rs D} {x y : D} {b : Bool} (hi : isIns c x = true) (ho : eqOk ES y = true) (h : fn [.val x, .val y] = .ok (.bl b) [.val x, .val y]) : ownEq c ES fn x y = some (.bl b) := by
  unfold ownEq; rw [if_pos ⟨hi, ho⟩]; unfold ans2; rw [h]; rfl
theorem one_y {c : Str} {fn : List Cell → Rs D} {x y : D} {b : Bool} (hi : isIns c x = true) (ho : eqOk ES y = true) (h : fn [.val x, .val y] = .ok (.bl b) [.val x, .val y]) : ownNe c ES fn x y = some (.bl (!b)) := by
  unfold ownNe; rw [if_pos ⟨hi, ho⟩]; unfold ans2; rw [h]; rfl
theorem oeq_n {c : Str} {fn : List Cell → Rs D} {x y : D} (hi : isIns c x = false) : ownEq c ES fn x y = none := by
  unfold ownEq; rw [if_neg]; rintro ⟨h, _⟩; rw [hi] at h; cases h
theorem one_n {c : Str} {fn : List Cell → Rs D} {x y : D} (hi : isIns c x = false) : ownNe c ES fn x y = none := by
  unfold ownNe; rw [if_neg]; rintro ⟨h, _⟩; rw [hi] at h; cases h
theorem eop2_bad {op : D → D → Option D} {f g : EX} {ρ : PEnv} {x y : D} (h1 : f ρ = .ok x ρ) (h2 : g ρ = .ok y ρ) (h : op x y = none) : eOp (op2 op) [.ex f, .ex g] ρ = .bad := by
  simp [eOp, evs, Opd.ev, h1, h2, dats, Arg.dat, op2, h, Rs.lift]
theorem bb_bad {E : EX} {ρ : PEnv} (h : E ρ = .bad) : bBl E ρ = .bad := by
  simp [bBl, h]
theorem ch3 {o1 o2 o3 : D → D → Option D} {x y z : D} (hf : f ρ = .ok x ρ) (hg : g ρ = .ok y ρ) (h : o1 x y = some z ∨ (o1 x y = none ∧ o2 x y = some z) ∨ (o1 x y = none ∧ o2 x y = none ∧ o3 x y = some z)) :
    eOrB (eOp (op2 o1) [.ex f, .ex g]) (eOrB (eOp (op2 o2) [.ex f, .ex g]) (eOp (op2 o3) [.ex f, .ex g])) ρ = .ok z ρ := by
  rcases h with h | ⟨h1, h⟩ | ⟨h1, h2, h⟩
  · exact orB1 (eop2_ok hf hg h)
  · exact orB2 (eop2_bad hf hg h1) (orB1 (eop2_ok hf hg h))
  · exact orB2 (eop2_bad hf hg h1) (orB2 (eop2_bad hf hg h2) (eop2_ok hf hg h))
theorem bch3 {o1 o2 o3 : D → D → Option D} {x y : D} (hf : f ρ = .ok x ρ) (hg : g ρ = .ok y ρ) (h : o1 x y = some (.bl b) ∨ (o1 x y = none ∧ o2 x y = some (.bl b)) ∨ (o1 x y = none ∧ o2 x y = none ∧ o3 x y = some (.bl b))) :
    bOrB (bBl (eOp (op2 o1) [.ex f, .ex g])) (bOrB (bBl (eOp (op2 o2) [.ex f, .ex g])) (bBl (eOp (op2 o3) [.ex f, .ex g]))) ρ = .ok b ρ := by
  rcases h with h | ⟨h1, h⟩ | ⟨h1, h2, h⟩
  · exact borB1 (bb_ok (eop2_ok hf hg h))
  · exact borB2 (bb_bad (eop2_bad hf hg h1)) (borB1 (bb_ok (eop2_ok hf hg h)))
  · exact borB2 (bb_bad (eop2_bad hf hg h1)) (borB2 (bb_bad (eop2_bad hf hg h2)) (bb_ok (eop2_ok hf hg h)))
theorem eq3 (h : EqAns W y b) : ownEq "Moments" ES fn_Moments_eq W.wish y = some (.bl b) ∨ (ownEq "Moments" ES fn_Moments_eq W.wish y = none ∧ ownEq "Answer" ES fn_Answer_eq W.wish y = some (.bl b)) ∨
    (ownEq "Moments" ES fn_Moments_eq W.wish y = none ∧ ownEq "Answer" ES fn_Answer_eq W.wish y = none ∧ ownEq "Number" ES fn_Number_eq W.wish y = some (.bl b)) := by
  cases W
  · exact .inl (oeq_y (by first | rfl | exact beq_eq_false_iff_ne.mpr (by decide)) h.1 h.2)
  · exact .inr (.inl ⟨oeq_n (by first | rfl | exact beq_eq_false_iff_ne.mpr (by decide)), oeq_y (by first | rfl | exact beq_eq_false_iff_ne.mpr (by decide)) h.1 h.2⟩)
  · exact .inr (.inr ⟨oeq_n (by first | rfl | exact beq_eq_false_iff_ne.mpr (by decide)), oeq_n (by first | rfl | exact beq_eq_false_iff_ne.mpr (by decide)), oeq_y (by first | rfl | exact beq_eq_false_iff_ne.mpr (by decide)) h.1 h.2⟩)
theorem ne3 (h : EqAns W y b) : ownNe "Moments" ES fn_Moments_eq W.wish y = some (.bl (!b)) ∨ (ownNe "Moments" ES fn_Moments_eq W.wish y = none ∧ ownNe "Answer" ES fn_Answer_eq W.wish y = some (.bl (!b))) ∨
    (ownNe "Moments" ES fn_Moments_eq W.wish y = none ∧ ownNe "Answer" ES fn_Answer_eq W.wish y = none ∧ ownNe "Number" ES fn_Number_eq W.wish y = some (.bl (!b))) := by
  cases W
  · exact .inl (one_y (by first | rfl | exact beq_eq_false_iff_ne.mpr (by decide)) h.1 h.2)
  · exact .inr (.inl ⟨one_n (by first | rfl | exact beq_eq_false_iff_ne.mpr (by decide)), one_y (by first | rfl | exact beq_eq_false_iff_ne.mpr (by decide)) h.1 h.2⟩)
  · exact .inr (.inr ⟨one_n (by first | rfl | exact beq_eq_false_iff_ne.mpr (by decide)), one_n (by first | rfl | exact beq_eq_false_iff_ne.mpr (by decide)), one_y (by first | rfl | exact beq_eq_false_iff_ne.mpr (by decide)) h.1 h.2⟩)
theorem eqx (hf : f ρ = .ok W.wish ρ) (hg : g ρ = .ok y ρ) (h : EqAns W y b) : eOrB (eOp (op2 (ownEq "Moments" ES fn_Moments_eq)) [.ex f, .ex g]) (eOrB (eOp (op2 (ownEq "Answer" ES fn_Answer_eq)) [.ex f, .ex g]) (eOp (op2 (ownEq "Number" ES fn_Number_eq)) [.ex f, .ex g])) ρ = .ok (.bl b) ρ :=
  ch3 hf hg (eq3 h)
theorem beqx (hf : f ρ = .ok W.wish ρ) (hg : g ρ = .ok y ρ) (h : EqAns W y b) : bOrB (bBl (eOp (op2 (ownEq "Moments" ES fn_Moments_eq)) [.ex f, .ex g])) (bOrB (bBl (eOp (op2 (ownEq "Answer" ES fn_Answer_eq)) [.ex f, .ex g])) (bBl (eOp (op2 (ownEq "Number" ES fn_Number_eq)) [.ex f, .ex g]))) ρ = .ok b ρ :=
  bch3 hf hg (eq3 h)
theorem bnex (hf : f ρ = .ok W.wish ρ) (hg : g ρ = .ok y ρ) (h : EqAns W y b) : bOrB (bBl (eOp (op2 (ownNe "Moments" ES fn_Moments_eq)) [.ex f, .ex g])) (bOrB (bBl (eOp (op2 (ownNe "Answer" ES fn_Answer_eq)) [.ex f, .ex g])) (bBl (eOp (op2 (ownNe "Number" ES fn_Number_eq)) [.ex f, .ex g]))) ρ = .ok (!b) ρ :=
  bch3 hf hg (ne3 h)
end
end Spk
namespace Spk
open PySem PySem.Spec PyProof.Rows L2
@[simp] theorem sb_events_stretches : (("events" : Str) == "stretches") = false := by decide
@[simp] theorem se_events_stretches : (("events" : Str) = "stretches") = False := by simp only [eq_iff_iff, iff_false]; decide
@[simp] theorem sb_stretches_events : (("stretches" : Str) == "events") = false := by decide
@[simp] theorem se_stretches_events : (("stretches" : Str) = "events") = False := by simp only [eq_iff_iff, iff_false]; decide
@[simp] theorem sb_by_which : (("by" : Str) == "which") = false := by decide
@[simp] theorem se_by_which : (("by" : Str) = "which") = False := by simp only [eq_iff_iff, iff_false]; decide
@[simp] theorem sb_by_within : (("by" : Str) == "within") = false := by decide
@[simp] theorem se_by_within : (("by" : Str) = "within") = False := by simp only [eq_iff_iff, iff_false]; decide
@[simp] theorem sb_by_form : (("by" : Str) == "form") = false := by decide
@[simp] theorem se_by_form : (("by" : Str) = "form") = False := by simp only [eq_iff_iff, iff_false]; decide
@[simp] theorem sb_by_what : (("by" : Str) == "what") = false := by decide
@[simp] theorem se_by_what : (("by" : Str) = "what") = False := by simp only [eq_iff_iff, iff_false]; decide
@[simp] theorem sb_by_ends : (("by" : Str) == "ends") = false := by decide
@[simp] theorem se_by_ends : (("by" : Str) = "ends") = False := by simp only [eq_iff_iff, iff_false]; decide
@[simp] theorem sb_fits_which : (("fits" : Str) == "which") = false := by decide
@[simp] theorem se_fits_which : (("fits" : Str) = "which") = False := by simp only [eq_iff_iff, iff_false]; decide
@[simp] theorem sb_fits_within : (("fits" : Str) == "within") = false := by decide
@[simp] theorem se_fits_within : (("fits" : Str) = "within") = False := by simp only [eq_iff_iff, iff_false]; decide
@[simp] theorem sb_fits_form : (("fits" : Str) == "form") = false := by decide
@[simp] theorem se_fits_form : (("fits" : Str) = "form") = False := by simp only [eq_iff_iff, iff_false]; decide
@[simp] theorem sb_fits_what : (("fits" : Str) == "what") = false := by decide
@[simp] theorem se_fits_what : (("fits" : Str) = "what") = False := by simp only [eq_iff_iff, iff_false]; decide
@[simp] theorem sb_fits_ends : (("fits" : Str) == "ends") = false := by decide
@[simp] theorem se_fits_ends : (("fits" : Str) = "ends") = False := by simp only [eq_iff_iff, iff_false]; decide
@[simp] theorem sb_which_by : (("which" : Str) == "by") = false := by decide
@[simp] theorem se_which_by : (("which" : Str) = "by") = False := by simp only [eq_iff_iff, iff_false]; decide
@[simp] theorem sb_which_fits : (("which" : Str) == "fits") = false := by decide
@[simp] theorem se_which_fits : (("which" : Str) = "fits") = False := by simp only [eq_iff_iff, iff_false]; decide
@[simp] theorem sb_within_by : (("within" : Str) == "by") = false := by decide
@[simp] theorem se_within_by : (("within" : Str) = "by") = False := by simp only [eq_iff_iff, iff_false]; decide
@[simp] theorem sb_within_fits : (("within" : Str) == "fits") = false := by decide
@[simp] theorem se_within_fits : (("within" : Str) = "fits") = False := by simp only [eq_iff_iff, iff_false]; decide
@[simp] theorem sb_form_by : (("form" : Str) == "by") = false := by decide
@[simp] theorem se_form_by : (("form" : Str) = "by") = False := by simp only [eq_iff_iff, iff_false]; decide
@[simp] theorem sb_form_fits : (("form" : Str) == "fits") = false := by decide
@[simp] theorem se_form_fits : (("form" : Str) = "fits") = False := by simp only [eq_iff_iff, iff_false]; decide
@[simp] theorem sb_what_by : (("what" : Str) == "by") = false := by decide
@[simp] theorem se_what_by : (("what" : Str) = "by") = False := by simp only [eq_iff_iff, iff_false]; decide
@[simp] theorem sb_what_fits : (("what" : Str) == "fits") = false := by decide
@[simp] theorem se_what_fits : (("what" : Str) = "fits") = False := by simp only [eq_iff_iff, iff_false]; decide
@[simp] theorem sb_ends_by : (("ends" : Str) == "by") = false := by decide
@[simp] theorem se_ends_by : (("ends" : Str) = "by") = False := by simp only [eq_iff_iff, iff_false]; decide
@[simp] theorem sb_ends_fits : (("ends" : Str) == "fits") = false := by decide
@[simp] theorem se_ends_fits : (("ends" : Str) = "fits") = False := by simp only [eq_iff_iff, iff_false]; decide
@[simp] theorem sb_half_shut : (("half" : Str) == "shut") = false := by decide
@[simp] theorem se_half_shut : (("half" : Str) = "shut") = False := by simp only [eq_iff_iff, iff_false]; decide
@[simp] theorem sb_shut_half : (("shut" : Str) == "half") = false := by decide
@[simp] theorem se_shut_half : (("shut" : Str) = "half") = False := by simp only [eq_iff_iff, iff_false]; decide
section
variable {f g : EX} {ρ : PEnv} {W : Wd} {y : D} {b vv : Bool}
theorem fld_ok {Cs : List Str} {a : Str} {d z : D} (h : f ρ = .ok d ρ) (k : fldD Cs a d = some z) : eFld Cs a f ρ = .ok z ρ := by
  unfold eFld; rw [h]; simp only [Rs.bind_ok, k]; rfl
theorem f_which (t : Fin 7) (s : Fin 4) (b e : Bool) : fldD ["Moments"] "which" (Wd.m t s b e).wish = some (.str (tM t)) := by simp [fnN, fnB, fnBF, sSeq, sRet, sRetF, sRetN, sIf, sSet, sNil, sExpr, sOwn, sPar, sAsg, sMut, sApp, sPut, eVar, eC, eOp, eCall, eAnd, eOr, eNot, eIf, eTup, eFr, fLst, Opd.ev, evs, Arg.dat, dats, vals?, op1, op2, appF, cells, Arg.cell, sls, wb, finC, eChain, bAnd, bOr, bNot, bBl, bTru, truth, lt_ii, le_ii, gt_ii, ge_ii, neg_i, add_ii, sub_ii, max_ii, min_ii, add_ll, add_tt, sizeLine_eq, gTupD, gsCons, gsNil, gSet, notBor_eq, nbO_val, nbO_no, nbO_own, nbO_oc, ix_l, ix_t, Cell.mu?, Cell.lst?, Mu.lst?, len_l, len_t, eIsi, isi_pr, isiD, tyS, List.lookup, gTup_pr, ix_pr0, ix_pr1, at2_0, at2_1, D.fit, D.pure, pures, D.py, pys, PyData.depth, PyData.depthAll, at3_0, at3_1, at3_2, set3_0, set3_1, set3_2, set2_0, set2_1, eq_ii, ne_ii, eq_ss, ne_ss, eq_bb, ne_bb, int_i, abs_i, Cell.put, putAt, len_scr, isN_int, isN_non, oc_mu, oc_noX, nbO_oc, sTry, trS, exS, Sr.out, dropX, noExn, Cell.noX, eXf, eXis, sRaiseB, eMethN, eMethX, noKey, isIns, eConI, eMkKN, eMkKX, eMkX, eMk, eFld, fldD, sFor, fSeq, seqD, eSFld, sFldS, putK, pow6, pow15, pow18, pow20, pow30, pow31, eOpX, eOpN, gSqD, sParF, sParE, eCallK, sIns, eJs, joinE, FPart.ev, fmtD, eJoin, gPl, gNil, gSeq, gYield, gFor, fMethN, fMethX, onlyX, eMethKX, eMethKN, eCallKPX, eCallKPN, fMethFX, fMethKX, fMethKN, Wd.wish, momD]
theorem f_form (t : Fin 7) (s : Fin 4) (b e : Bool) : fldD ["Moments"] "form" (Wd.m t s b e).wish = some (.str (sM s)) := by simp [fnN, fnB, fnBF, sSeq, sRet, sRetF, sRetN, sIf, sSet, sNil, sExpr, sOwn, sPar, sAsg, sMut, sApp, sPut, eVar, eC, eOp, eCall, eAnd, eOr, eNot, eIf, eTup, eFr, fLst, Opd.ev, evs, Arg.dat, dats, vals?, op1, op2, appF, cells, Arg.cell, sls, wb, finC, eChain, bAnd, bOr, bNot, bBl, bTru, truth, lt_ii, le_ii, gt_ii, ge_ii, neg_i, add_ii, sub_ii, max_ii, min_ii, add_ll, add_tt, sizeLine_eq, gTupD, gsCons, gsNil, gSet, notBor_eq, nbO_val, nbO_no, nbO_own, nbO_oc, ix_l, ix_t, Cell.mu?, Cell.lst?, Mu.lst?, len_l, len_t, eIsi, isi_pr, isiD, tyS, List.lookup, gTup_pr, ix_pr0, ix_pr1, at2_0, at2_1, D.fit, D.pure, pures, D.py, pys, PyData.depth, PyData.depthAll, at3_0, at3_1, at3_2, set3_0, set3_1, set3_2, set2_0, set2_1, eq_ii, ne_ii, eq_ss, ne_ss, eq_bb, ne_bb, int_i, abs_i, Cell.put, putAt, len_scr, isN_int, isN_non, oc_mu, oc_noX, nbO_oc, sTry, trS, exS, Sr.out, dropX, noExn, Cell.noX, eXf, eXis, sRaiseB, eMethN, eMethX, noKey, isIns, eConI, eMkKN, eMkKX, eMkX, eMk, eFld, fldD, sFor, fSeq, seqD, eSFld, sFldS, putK, pow6, pow15, pow18, pow20, pow30, pow31, eOpX, eOpN, gSqD, sParF, sParE, eCallK, sIns, eJs, joinE, FPart.ev, fmtD, eJoin, gPl, gNil, gSeq, gYield, gFor, fMethN, fMethX, onlyX, eMethKX, eMethKN, eCallKPX, eCallKPN, fMethFX, fMethKX, fMethKN, Wd.wish, momD]
theorem f_within (t : Fin 7) (s : Fin 4) (b e : Bool) : fldD ["Moments"] "within" (Wd.m t s b e).wish = some (.bl b) := by simp [fnN, fnB, fnBF, sSeq, sRet, sRetF, sRetN, sIf, sSet, sNil, sExpr, sOwn, sPar, sAsg, sMut, sApp, sPut, eVar, eC, eOp, eCall, eAnd, eOr, eNot, eIf, eTup, eFr, fLst, Opd.ev, evs, Arg.dat, dats, vals?, op1, op2, appF, cells, Arg.cell, sls, wb, finC, eChain, bAnd, bOr, bNot, bBl, bTru, truth, lt_ii, le_ii, gt_ii, ge_ii, neg_i, add_ii, sub_ii, max_ii, min_ii, add_ll, add_tt, sizeLine_eq, gTupD, gsCons, gsNil, gSet, notBor_eq, nbO_val, nbO_no, nbO_own, nbO_oc, ix_l, ix_t, Cell.mu?, Cell.lst?, Mu.lst?, len_l, len_t, eIsi, isi_pr, isiD, tyS, List.lookup, gTup_pr, ix_pr0, ix_pr1, at2_0, at2_1, D.fit, D.pure, pures, D.py, pys, PyData.depth, PyData.depthAll, at3_0, at3_1, at3_2, set3_0, set3_1, set3_2, set2_0, set2_1, eq_ii, ne_ii, eq_ss, ne_ss, eq_bb, ne_bb, int_i, abs_i, Cell.put, putAt, len_scr, isN_int, isN_non, oc_mu, oc_noX, nbO_oc, sTry, trS, exS, Sr.out, dropX, noExn, Cell.noX, eXf, eXis, sRaiseB, eMethN, eMethX, noKey, isIns, eConI, eMkKN, eMkKX, eMkX, eMk, eFld, fldD, sFor, fSeq, seqD, eSFld, sFldS, putK, pow6, pow15, pow18, pow20, pow30, pow31, eOpX, eOpN, gSqD, sParF, sParE, eCallK, sIns, eJs, joinE, FPart.ev, fmtD, eJoin, gPl, gNil, gSeq, gYield, gFor, fMethN, fMethX, onlyX, eMethKX, eMethKN, eCallKPX, eCallKPN, fMethFX, fMethKX, fMethKN, Wd.wish, momD]
theorem f_whatA (t : Fin 3) (e : Bool) : fldD ["Answer", "Number"] "what" (Wd.a t e).wish = some (.str (tA t)) := by simp [fnN, fnB, fnBF, sSeq, sRet, sRetF, sRetN, sIf, sSet, sNil, sExpr, sOwn, sPar, sAsg, sMut, sApp, sPut, eVar, eC, eOp, eCall, eAnd, eOr, eNot, eIf, eTup, eFr, fLst, Opd.ev, evs, Arg.dat, dats, vals?, op1, op2, appF, cells, Arg.cell, sls, wb, finC, eChain, bAnd, bOr, bNot, bBl, bTru, truth, lt_ii, le_ii, gt_ii, ge_ii, neg_i, add_ii, sub_ii, max_ii, min_ii, add_ll, add_tt, sizeLine_eq, gTupD, gsCons, gsNil, gSet, notBor_eq, nbO_val, nbO_no, nbO_own, nbO_oc, ix_l, ix_t, Cell.mu?, Cell.lst?, Mu.lst?, len_l, len_t, eIsi, isi_pr, isiD, tyS, List.lookup, gTup_pr, ix_pr0, ix_pr1, at2_0, at2_1, D.fit, D.pure, pures, D.py, pys, PyData.depth, PyData.depthAll, at3_0, at3_1, at3_2, set3_0, set3_1, set3_2, set2_0, set2_1, eq_ii, ne_ii, eq_ss, ne_ss, eq_bb, ne_bb, int_i, abs_i, Cell.put, putAt, len_scr, isN_int, isN_non, oc_mu, oc_noX, nbO_oc, sTry, trS, exS, Sr.out, dropX, noExn, Cell.noX, eXf, eXis, sRaiseB, eMethN, eMethX, noKey, isIns, eConI, eMkKN, eMkKX, eMkX, eMk, eFld, fldD, sFor, fSeq, seqD, eSFld, sFldS, putK, pow6, pow15, pow18, pow20, pow30, pow31, eOpX, eOpN, gSqD, sParF, sParE, eCallK, sIns, eJs, joinE, FPart.ev, fmtD, eJoin, gPl, gNil, gSeq, gYield, gFor, fMethN, fMethX, onlyX, eMethKX, eMethKN, eCallKPX, eCallKPN, fMethFX, fMethKX, fMethKN, Wd.wish, ansD]
theorem f_whatN (t : Fin 6) (e : Bool) : fldD ["Answer", "Number"] "what" (Wd.n t e).wish = some (.str (tN t)) := by simp [fnN, fnB, fnBF, sSeq, sRet, sRetF, sRetN, sIf, sSet, sNil, sExpr, sOwn, sPar, sAsg, sMut, sApp, sPut, eVar, eC, eOp, eCall, eAnd, eOr, eNot, eIf, eTup, eFr, fLst, Opd.ev, evs, Arg.dat, dats, vals?, op1, op2, appF, cells, Arg.cell, sls, wb, finC, eChain, bAnd, bOr, bNot, bBl, bTru, truth, lt_ii, le_ii, gt_ii, ge_ii, neg_i, add_ii, sub_ii, max_ii, min_ii, add_ll, add_tt, sizeLine_eq, gTupD, gsCons, gsNil, gSet, notBor_eq, nbO_val, nbO_no, nbO_own, nbO_oc, ix_l, ix_t, Cell.mu?, Cell.lst?, Mu.lst?, len_l, len_t, eIsi, isi_pr, isiD, tyS, List.lookup, gTup_pr, ix_pr0, ix_pr1, at2_0, at2_1, D.fit, D.pure, pures, D.py, pys, PyData.depth, PyData.depthAll, at3_0, at3_1, at3_2, set3_0, set3_1, set3_2, set2_0, set2_1, eq_ii, ne_ii, eq_ss, ne_ss, eq_bb, ne_bb, int_i, abs_i, Cell.put, putAt, len_scr, isN_int, isN_non, oc_mu, oc_noX, nbO_oc, sTry, trS, exS, Sr.out, dropX, noExn, Cell.noX, eXf, eXis, sRaiseB, eMethN, eMethX, noKey, isIns, eConI, eMkKN, eMkKX, eMkX, eMk, eFld, fldD, sFor, fSeq, seqD, eSFld, sFldS, putK, pow6, pow15, pow18, pow20, pow30, pow31, eOpX, eOpN, gSqD, sParF, sParE, eCallK, sIns, eJs, joinE, FPart.ev, fmtD, eJoin, gPl, gNil, gSeq, gYield, gFor, fMethN, fMethX, onlyX, eMethKX, eMethKN, eCallKPX, eCallKPN, fMethFX, fMethKX, fMethKN, Wd.wish, numD]
theorem f_ends (W : Wd) : fldD ["Moments", "Answer", "Number"] "ends" W.wish = some W.wd := by
  cases W <;> simp [fnN, fnB, fnBF, sSeq, sRet, sRetF, sRetN, sIf, sSet, sNil, sExpr, sOwn, sPar, sAsg, sMut, sApp, sPut, eVar, eC, eOp, eCall, eAnd, eOr, eNot, eIf, eTup, eFr, fLst, Opd.ev, evs, Arg.dat, dats, vals?, op1, op2, appF, cells, Arg.cell, sls, wb, finC, eChain, bAnd, bOr, bNot, bBl, bTru, truth, lt_ii, le_ii, gt_ii, ge_ii, neg_i, add_ii, sub_ii, max_ii, min_ii, add_ll, add_tt, sizeLine_eq, gTupD, gsCons, gsNil, gSet, notBor_eq, nbO_val, nbO_no, nbO_own, nbO_oc, ix_l, ix_t, Cell.mu?, Cell.lst?, Mu.lst?, len_l, len_t, eIsi, isi_pr, isiD, tyS, List.lookup, gTup_pr, ix_pr0, ix_pr1, at2_0, at2_1, D.fit, D.pure, pures, D.py, pys, PyData.depth, PyData.depthAll, at3_0, at3_1, at3_2, set3_0, set3_1, set3_2, set2_0, set2_1, eq_ii, ne_ii, eq_ss, ne_ss, eq_bb, ne_bb, int_i, abs_i, Cell.put, putAt, len_scr, isN_int, isN_non, oc_mu, oc_noX, nbO_oc, sTry, trS, exS, Sr.out, dropX, noExn, Cell.noX, eXf, eXis, sRaiseB, eMethN, eMethX, noKey, isIns, eConI, eMkKN, eMkKX, eMkX, eMk, eFld, fldD, sFor, fSeq, seqD, eSFld, sFldS, putK, pow6, pow15, pow18, pow20, pow30, pow31, eOpX, eOpN, gSqD, sParF, sParE, eCallK, sIns, eJs, joinE, FPart.ev, fmtD, eJoin, gPl, gNil, gSeq, gYield, gFor, fMethN, fMethX, onlyX, eMethKX, eMethKN, eCallKPX, eCallKPN, fMethFX, fMethKX, fMethKN, Wd.wish, momD, ansD, numD, Wd.wd, Wd.en]
theorem isM (t : Fin 7) (s : Fin 4) (b e : Bool) : isIns "Moments" (Wd.m t s b e).wish = true := rfl
theorem isA (t : Fin 3) (e : Bool) : isIns "Answer" (Wd.a t e).wish = true := rfl
theorem isN' (t : Fin 6) (e : Bool) : isIns "Number" (Wd.n t e).wish = true := rfl
theorem nMa (t : Fin 3) (e : Bool) : isIns "Moments" (Wd.a t e).wish = false := beq_eq_false_iff_ne.mpr (by decide)
theorem nMn (t : Fin 6) (e : Bool) : isIns "Moments" (Wd.n t e).wish = false := beq_eq_false_iff_ne.mpr (by decide)
theorem nAn (t : Fin 6) (e : Bool) : isIns "Answer" (Wd.n t e).wish = false := beq_eq_false_iff_ne.mpr (by decide)
theorem nk_by (W : Wd) : noKey "by" W.wish = true := by
  cases W <;> simp [fnN, fnB, fnBF, sSeq, sRet, sRetF, sRetN, sIf, sSet, sNil, sExpr, sOwn, sPar, sAsg, sMut, sApp, sPut, eVar, eC, eOp, eCall, eAnd, eOr, eNot, eIf, eTup, eFr, fLst, Opd.ev, evs, Arg.dat, dats, vals?, op1, op2, appF, cells, Arg.cell, sls, wb, finC, eChain, bAnd, bOr, bNot, bBl, bTru, truth, lt_ii, le_ii, gt_ii, ge_ii, neg_i, add_ii, sub_ii, max_ii, min_ii, add_ll, add_tt, sizeLine_eq, gTupD, gsCons, gsNil, gSet, notBor_eq, nbO_val, nbO_no, nbO_own, nbO_oc, ix_l, ix_t, Cell.mu?, Cell.lst?, Mu.lst?, len_l, len_t, eIsi, isi_pr, isiD, tyS, List.lookup, gTup_pr, ix_pr0, ix_pr1, at2_0, at2_1, D.fit, D.pure, pures, D.py, pys, PyData.depth, PyData.depthAll, at3_0, at3_1, at3_2, set3_0, set3_1, set3_2, set2_0, set2_1, eq_ii, ne_ii, eq_ss, ne_ss, eq_bb, ne_bb, int_i, abs_i, Cell.put, putAt, len_scr, isN_int, isN_non, oc_mu, oc_noX, nbO_oc, sTry, trS, exS, Sr.out, dropX, noExn, Cell.noX, eXf, eXis, sRaiseB, eMethN, eMethX, noKey, isIns, eConI, eMkKN, eMkKX, eMkX, eMk, eFld, fldD, sFor, fSeq, seqD, eSFld, sFldS, putK, pow6, pow15, pow18, pow20, pow30, pow31, eOpX, eOpN, gSqD, sParF, sParE, eCallK, sIns, eJs, joinE, FPart.ev, fmtD, eJoin, gPl, gNil, gSeq, gYield, gFor, fMethN, fMethX, onlyX, eMethKX, eMethKN, eCallKPX, eCallKPN, fMethFX, fMethKX, fMethKN, Wd.wish, momD, ansD, numD]
theorem nk_fits (W : Wd) : noKey "fits" W.wish = true := by
  cases W <;> simp [fnN, fnB, fnBF, sSeq, sRet, sRetF, sRetN, sIf, sSet, sNil, sExpr, sOwn, sPar, sAsg, sMut, sApp, sPut, eVar, eC, eOp, eCall, eAnd, eOr, eNot, eIf, eTup, eFr, fLst, Opd.ev, evs, Arg.dat, dats, vals?, op1, op2, appF, cells, Arg.cell, sls, wb, finC, eChain, bAnd, bOr, bNot, bBl, bTru, truth, lt_ii, le_ii, gt_ii, ge_ii, neg_i, add_ii, sub_ii, max_ii, min_ii, add_ll, add_tt, sizeLine_eq, gTupD, gsCons, gsNil, gSet, notBor_eq, nbO_val, nbO_no, nbO_own, nbO_oc, ix_l, ix_t, Cell.mu?, Cell.lst?, Mu.lst?, len_l, len_t, eIsi, isi_pr, isiD, tyS, List.lookup, gTup_pr, ix_pr0, ix_pr1, at2_0, at2_1, D.fit, D.pure, pures, D.py, pys, PyData.depth, PyData.depthAll, at3_0, at3_1, at3_2, set3_0, set3_1, set3_2, set2_0, set2_1, eq_ii, ne_ii, eq_ss, ne_ss, eq_bb, ne_bb, int_i, abs_i, Cell.put, putAt, len_scr, isN_int, isN_non, oc_mu, oc_noX, nbO_oc, sTry, trS, exS, Sr.out, dropX, noExn, Cell.noX, eXf, eXis, sRaiseB, eMethN, eMethX, noKey, isIns, eConI, eMkKN, eMkKX, eMkX, eMk, eFld, fldD, sFor, fSeq, seqD, eSFld, sFldS, putK, pow6, pow15, pow18, pow20, pow30, pow31, eOpX, eOpN, gSqD, sParF, sParE, eCallK, sIns, eJs, joinE, FPart.ev, fmtD, eJoin, gPl, gNil, gSeq, gYield, gFor, fMethN, fMethX, onlyX, eMethKX, eMethKN, eCallKPX, eCallKPN, fMethFX, fMethKX, fMethKN, Wd.wish, momD, ansD, numD]
/-! ### by -/
theorem by_m (t : Fin 7) (s : Fin 4) (b e e' : Bool) : fn_Moments_by [.val (Wd.m t s b e).wish, .val (.str (wE e'))] = .ok (Wd.m t s b e').wish [.val (Wd.m t s b e).wish, .val (.str (wE e'))] := by
  have h0 : eVar 0 [.val (Wd.m t s b e).wish, .val (.str (wE e'))] = .ok (Wd.m t s b e).wish [.val (Wd.m t s b e).wish, .val (.str (wE e'))] := rfl
  exact fb_rt (ρ := [.val (Wd.m t s b e).wish, .val (.str (wE e'))]) (retE_ok (kxX (as := [.val (.str (tM t))]) (bs := [.val (.bl b), .val (.str (sM s)), .val (.str (wE e'))]) (evs1 (fld_ok h0 (f_which t s b e))) (evs3 (fld_ok h0 (f_within t s b e)) (fld_ok h0 (f_form t s b e)) rfl) ⟨rfl, rfl⟩ (mom_mk t s b e' _))) rfl
theorem by_a (t : Fin 3) (e e' : Bool) : fn_Answer_by [.val (Wd.a t e).wish, .val (.str (wE e'))] = .ok (Wd.a t e').wish [.val (Wd.a t e).wish, .val (.str (wE e'))] := by
  have h0 : eVar 0 [.val (Wd.a t e).wish, .val (.str (wE e'))] = .ok (Wd.a t e).wish [.val (Wd.a t e).wish, .val (.str (wE e'))] := rfl
  exact fb_rt (ρ := [.val (Wd.a t e).wish, .val (.str (wE e'))]) (retE_ok (kxX (as := [.val (.str (tA t))]) (bs := [.val (.str (wE e'))]) (evs1 (fld_ok h0 (f_whatA t e))) (evs1 rfl) ⟨rfl, rfl⟩ (ans_mk t e' _))) rfl
theorem by_n (t : Fin 6) (e e' : Bool) : fn_Number_by [.val (Wd.n t e).wish, .val (.str (wE e'))] = .ok (Wd.n t e').wish [.val (Wd.n t e).wish, .val (.str (wE e'))] := by
  have h0 : eVar 0 [.val (Wd.n t e).wish, .val (.str (wE e'))] = .ok (Wd.n t e).wish [.val (Wd.n t e).wish, .val (.str (wE e'))] := rfl
  exact fb_rt (ρ := [.val (Wd.n t e).wish, .val (.str (wE e'))]) (retE_ok (kxX (as := [.val (.str (tN t))]) (bs := [.val (.str (wE e'))]) (evs1 (fld_ok h0 (f_whatN t e))) (evs1 rfl) ⟨rfl, rfl⟩ (num_mk t e' _))) rfl
theorem mt_bad {n : Nat} {fn : List Cell → Rs D} {C m : Str} {dfl : List D} {os : List Opd} {o : D} (h0 : f ρ = .ok o ρ) (i1 : isIns C o = false) : eMethN n fn C m dfl f os ρ = .bad := by
  unfold eMethN
  rw [h0]
  simp only [Rs.bind_ok]
  rw [if_neg]
  rintro ⟨h, _⟩
  rw [i1] at h; cases h
theorem byx (hf : f ρ = .ok W.wish ρ) (e : Bool) (hg : g ρ = .ok (.str (wE e)) ρ) : eOrB (eMethN 2 fn_Moments_by "Moments" "by" [] f [.ex g]) (eOrB (eMethN 2 fn_Answer_by "Answer" "by" [] f [.ex g]) (eMethN 2 fn_Number_by "Number" "by" [] f [.ex g])) ρ = .ok (W.by_ e).wish ρ := by
  cases W with
  | m t s b e0 => exact orB1 (mt1 hf hg (isM t s b e0) (nk_by _) (by_m t s b e0 e))
  | a t e0 => exact orB2 (mt_bad hf (nMa t e0)) (orB1 (mt1 hf hg (isA t e0) (nk_by _) (by_a t e0 e)))
  | n t e0 => exact orB2 (mt_bad hf (nMn t e0)) (orB2 (mt_bad hf (nAn t e0)) (mt1 hf hg (isN' t e0) (nk_by _) (by_n t e0 e)))
theorem btru_c {b : Bool} (h : f ρ = .ok (.bl b) ρ) : bTru (.ex f) ρ = .ok b ρ := by
  simp [fnN, fnB, fnBF, sSeq, sRet, sRetF, sRetN, sIf, sSet, sNil, sExpr, sOwn, sPar, sAsg, sMut, sApp, sPut, eVar, eC, eOp, eCall, eAnd, eOr, eNot, eIf, eTup, eFr, fLst, Opd.ev, evs, Arg.dat, dats, vals?, op1, op2, appF, cells, Arg.cell, sls, wb, finC, eChain, bAnd, bOr, bNot, bBl, bTru, truth, lt_ii, le_ii, gt_ii, ge_ii, neg_i, add_ii, sub_ii, max_ii, min_ii, add_ll, add_tt, sizeLine_eq, gTupD, gsCons, gsNil, gSet, notBor_eq, nbO_val, nbO_no, nbO_own, nbO_oc, ix_l, ix_t, Cell.mu?, Cell.lst?, Mu.lst?, len_l, len_t, eIsi, isi_pr, isiD, tyS, List.lookup, gTup_pr, ix_pr0, ix_pr1, at2_0, at2_1, D.fit, D.pure, pures, D.py, pys, PyData.depth, PyData.depthAll, at3_0, at3_1, at3_2, set3_0, set3_1, set3_2, set2_0, set2_1, eq_ii, ne_ii, eq_ss, ne_ss, eq_bb, ne_bb, int_i, abs_i, Cell.put, putAt, len_scr, isN_int, isN_non, oc_mu, oc_noX, nbO_oc, sTry, trS, exS, Sr.out, dropX, noExn, Cell.noX, eXf, eXis, sRaiseB, eMethN, eMethX, noKey, isIns, eConI, eMkKN, eMkKX, eMkX, eMk, eFld, fldD, sFor, fSeq, seqD, eSFld, sFldS, putK, pow6, pow15, pow18, pow20, pow30, pow31, eOpX, eOpN, gSqD, sParF, sParE, eCallK, sIns, eJs, joinE, FPart.ev, fmtD, eJoin, gPl, gNil, gSeq, gYield, gFor, fMethN, fMethX, onlyX, eMethKX, eMethKN, eCallKPX, eCallKPN, fMethFX, fMethKX, fMethKN, h]
/-! ### fits -/
def lpD (o : D) : D := .ins "Loop" ["order", "ahead", "each", "behind", "known"] [o, .tup [], .tup [], .tup [], .tup []]
def EvT : List D := [.str "at", .str "at in", .str "at out"]
def StT : List D := [.str "any", .str "begin", .str "begin end", .str "begin back", .str "end", .str "end begin", .str "end back"]
def lwS : Bool → Str
  | true => "events"
  | false => "stretches"
theorem reads_ok {o : D} (h : inD o (.tup EvT) = some (.bl vv)) : fn_Loop_reads [.val (lpD o)] = .ok (.str (lwS vv)) [.val (lpD o)] := by
  have r : fn_reads_events [.val o] = .ok (.bl vv) [.val o] := by
    unfold EvT at h
    unfold fn_reads_events sem_reads_events
    simp [fnN, fnB, fnBF, sSeq, sRet, sRetF, sRetN, sIf, sSet, sNil, sExpr, sOwn, sPar, sAsg, sMut, sApp, sPut, eVar, eC, eOp, eCall, eAnd, eOr, eNot, eIf, eTup, eFr, fLst, Opd.ev, evs, Arg.dat, dats, vals?, op1, op2, appF, cells, Arg.cell, sls, wb, finC, eChain, bAnd, bOr, bNot, bBl, bTru, truth, lt_ii, le_ii, gt_ii, ge_ii, neg_i, add_ii, sub_ii, max_ii, min_ii, add_ll, add_tt, sizeLine_eq, gTupD, gsCons, gsNil, gSet, notBor_eq, nbO_val, nbO_no, nbO_own, nbO_oc, ix_l, ix_t, Cell.mu?, Cell.lst?, Mu.lst?, len_l, len_t, eIsi, isi_pr, isiD, tyS, List.lookup, gTup_pr, ix_pr0, ix_pr1, at2_0, at2_1, D.fit, D.pure, pures, D.py, pys, PyData.depth, PyData.depthAll, at3_0, at3_1, at3_2, set3_0, set3_1, set3_2, set2_0, set2_1, eq_ii, ne_ii, eq_ss, ne_ss, eq_bb, ne_bb, int_i, abs_i, Cell.put, putAt, len_scr, isN_int, isN_non, oc_mu, oc_noX, nbO_oc, sTry, trS, exS, Sr.out, dropX, noExn, Cell.noX, eXf, eXis, sRaiseB, eMethN, eMethX, noKey, isIns, eConI, eMkKN, eMkKX, eMkX, eMk, eFld, fldD, sFor, fSeq, seqD, eSFld, sFldS, putK, pow6, pow15, pow18, pow20, pow30, pow31, eOpX, eOpN, gSqD, sParF, sParE, eCallK, sIns, eJs, joinE, FPart.ev, fmtD, eJoin, gPl, gNil, gSeq, gYield, gFor, fMethN, fMethX, onlyX, eMethKX, eMethKN, eCallKPX, eCallKPN, fMethFX, fMethKX, fMethKN, t_reads_events_1, h]
  have k : fldD ["Loop"] "order" (lpD o) = some o := by simp [fnN, fnB, fnBF, sSeq, sRet, sRetF, sRetN, sIf, sSet, sNil, sExpr, sOwn, sPar, sAsg, sMut, sApp, sPut, eVar, eC, eOp, eCall, eAnd, eOr, eNot, eIf, eTup, eFr, fLst, Opd.ev, evs, Arg.dat, dats, vals?, op1, op2, appF, cells, Arg.cell, sls, wb, finC, eChain, bAnd, bOr, bNot, bBl, bTru, truth, lt_ii, le_ii, gt_ii, ge_ii, neg_i, add_ii, sub_ii, max_ii, min_ii, add_ll, add_tt, sizeLine_eq, gTupD, gsCons, gsNil, gSet, notBor_eq, nbO_val, nbO_no, nbO_own, nbO_oc, ix_l, ix_t, Cell.mu?, Cell.lst?, Mu.lst?, len_l, len_t, eIsi, isi_pr, isiD, tyS, List.lookup, gTup_pr, ix_pr0, ix_pr1, at2_0, at2_1, D.fit, D.pure, pures, D.py, pys, PyData.depth, PyData.depthAll, at3_0, at3_1, at3_2, set3_0, set3_1, set3_2, set2_0, set2_1, eq_ii, ne_ii, eq_ss, ne_ss, eq_bb, ne_bb, int_i, abs_i, Cell.put, putAt, len_scr, isN_int, isN_non, oc_mu, oc_noX, nbO_oc, sTry, trS, exS, Sr.out, dropX, noExn, Cell.noX, eXf, eXis, sRaiseB, eMethN, eMethX, noKey, isIns, eConI, eMkKN, eMkKX, eMkX, eMk, eFld, fldD, sFor, fSeq, seqD, eSFld, sFldS, putK, pow6, pow15, pow18, pow20, pow30, pow31, eOpX, eOpN, gSqD, sParF, sParE, eCallK, sIns, eJs, joinE, FPart.ev, fmtD, eJoin, gPl, gNil, gSeq, gYield, gFor, fMethN, fMethX, onlyX, eMethKX, eMethKN, eCallKPX, eCallKPN, fMethFX, fMethKX, fMethKN, lpD]
  have e : eFld ["Loop"] "order" (eVar 0) [.val (lpD o)] = .ok o [.val (lpD o)] := fld_ok rfl k
  have c := cl1 (fn := fn_reads_events) e r
  unfold fn_Loop_reads
  refine fn_rt (ρ := [.val (lpD o)]) ?_ rfl
  show sRet _ [.val (lpD o)] = _
  cases vv
  · exact retE_ok (eif_f (ρ1 := [.val (lpD o)]) (btru_c c) rfl)
  · exact retE_ok (eif_t (ρ1 := [.val (lpD o)]) (btru_c c) rfl)
theorem pr_ok {C : Str} {fn : List Cell → Rs D} {ks : List Str} {ds : List D} {z : D} (h : f ρ = .ok (.ins C ks ds) ρ) (k : fn [.val (.ins C ks ds)] = .ok z [.val (.ins C ks ds)]) : eProp C fn f ρ = .ok z ρ := by
  unfold eProp
  rw [h]
  simp only [Rs.bind_ok]
  rw [if_pos trivial]
  simp [fnN, fnB, fnBF, sSeq, sRet, sRetF, sRetN, sIf, sSet, sNil, sExpr, sOwn, sPar, sAsg, sMut, sApp, sPut, eVar, eC, eOp, eCall, eAnd, eOr, eNot, eIf, eTup, eFr, fLst, Opd.ev, evs, Arg.dat, dats, vals?, op1, op2, appF, cells, Arg.cell, sls, wb, finC, eChain, bAnd, bOr, bNot, bBl, bTru, truth, lt_ii, le_ii, gt_ii, ge_ii, neg_i, add_ii, sub_ii, max_ii, min_ii, add_ll, add_tt, sizeLine_eq, gTupD, gsCons, gsNil, gSet, notBor_eq, nbO_val, nbO_no, nbO_own, nbO_oc, ix_l, ix_t, Cell.mu?, Cell.lst?, Mu.lst?, len_l, len_t, eIsi, isi_pr, isiD, tyS, List.lookup, gTup_pr, ix_pr0, ix_pr1, at2_0, at2_1, D.fit, D.pure, pures, D.py, pys, PyData.depth, PyData.depthAll, at3_0, at3_1, at3_2, set3_0, set3_1, set3_2, set2_0, set2_1, eq_ii, ne_ii, eq_ss, ne_ss, eq_bb, ne_bb, int_i, abs_i, Cell.put, putAt, len_scr, isN_int, isN_non, oc_mu, oc_noX, nbO_oc, sTry, trS, exS, Sr.out, dropX, noExn, Cell.noX, eXf, eXis, sRaiseB, eMethN, eMethX, noKey, isIns, eConI, eMkKN, eMkKX, eMkX, eMk, eFld, fldD, sFor, fSeq, seqD, eSFld, sFldS, putK, pow6, pow15, pow18, pow20, pow30, pow31, eOpX, eOpN, gSqD, sParF, sParE, eCallK, sIns, eJs, joinE, FPart.ev, fmtD, eJoin, gPl, gNil, gSeq, gYield, gFor, fMethN, fMethX, onlyX, eMethKX, eMethKN, eCallKPX, eCallKPN, fMethFX, fMethKX, fMethKN, k]
theorem pr_bad {C C2 : Str} {fn : List Cell → Rs D} {ks : List Str} {ds : List D} (h : f ρ = .ok (.ins C2 ks ds) ρ) (n : C2 ≠ C) : eProp C fn f ρ = .bad := by
  unfold eProp
  rw [h]
  simp only [Rs.bind_ok]
  rw [if_neg n]
theorem ev_eq (vv : Bool) : eqD (.str (lwS vv)) (.str "events") = some (.bl vv) := isB_eq ((by decide +kernel : ∀ vv : Bool, isB vv (eqD (.str (lwS vv)) (.str "events")) = true) vv)
theorem st_eq (vv : Bool) : eqD (.str (lwS vv)) (.str "stretches") = some (.bl (!vv)) := isB_eq ((by decide +kernel : ∀ vv : Bool, isB (!vv) (eqD (.str (lwS vv)) (.str "stretches")) = true) vv)
def Wd.fitB (W : Wd) (vv : Bool) : Bool := if vv then W.ins else !W.ins
theorem fits_m {o : D} (h : inD o (.tup EvT) = some (.bl vv)) (t : Fin 7) (s : Fin 4) (b e : Bool) : fn_Moments_fits [.val (Wd.m t s b e).wish, .val (lpD o)] = .ok (.bl ((Wd.m t s b e).fitB vv)) [.val (Wd.m t s b e).wish, .val (lpD o)] := by
  have q0 : eVar 0 [.val (Wd.m t s b e).wish, .val (lpD o)] = .ok (Wd.m t s b e).wish [.val (Wd.m t s b e).wish, .val (lpD o)] := rfl
  have q1 : eVar 1 [.val (Wd.m t s b e).wish, .val (lpD o)] = .ok (lpD o) [.val (Wd.m t s b e).wish, .val (lpD o)] := rfl
  have e1 := eop2_ok (pr_ok q1 (reads_ok h)) (show eC (.str "events") [.val (Wd.m t s b e).wish, .val (lpD o)] = _ from rfl) (ev_eq vv)
  have e2 := eop2_ok (fld_ok q0 (f_which t s b e)) (show eC (.str "inside") [.val (Wd.m t s b e).wish, .val (lpD o)] = _ from rfl) (tM_eq t 6)
  have e3 := eop2_ok e1 e2 (bl_eq vv (decide (t = 6)))
  have w : (Wd.m t s b e).fitB vv = decide (vv = decide (t = 6)) := by
    have w0 : (Wd.m t s b e).ins = decide (t = 6) := rfl
    unfold Wd.fitB
    rw [w0]
    cases vv <;> cases decide (t = 6) <;> rfl
  rw [w]
  exact fb_rt (ρ := [.val (Wd.m t s b e).wish, .val (lpD o)]) (retE_ok e3) rfl
theorem fits_a {o : D} (h : inD o (.tup EvT) = some (.bl vv)) (t : Fin 3) (e : Bool) : fn_Answer_fits [.val (Wd.a t e).wish, .val (lpD o)] = .ok (.bl ((Wd.a t e).fitB vv)) [.val (Wd.a t e).wish, .val (lpD o)] := by
  have q1 : eVar 1 [.val (Wd.a t e).wish, .val (lpD o)] = .ok (lpD o) [.val (Wd.a t e).wish, .val (lpD o)] := rfl
  have e1 := eop2_ok (pr_ok q1 (reads_ok h)) (show eC (.str "stretches") [.val (Wd.a t e).wish, .val (lpD o)] = _ from rfl) (st_eq vv)
  have w : (Wd.a t e).fitB vv = !vv := by unfold Wd.fitB Wd.ins; cases vv <;> rfl
  rw [w]
  exact fb_rt (ρ := [.val (Wd.a t e).wish, .val (lpD o)]) (retE_ok e1) rfl
theorem fits_n {o : D} (h : inD o (.tup EvT) = some (.bl vv)) (t : Fin 6) (e : Bool) : fn_Number_fits [.val (Wd.n t e).wish, .val (lpD o)] = .ok (.bl ((Wd.n t e).fitB vv)) [.val (Wd.n t e).wish, .val (lpD o)] := by
  have q1 : eVar 1 [.val (Wd.n t e).wish, .val (lpD o)] = .ok (lpD o) [.val (Wd.n t e).wish, .val (lpD o)] := rfl
  have e1 := eop2_ok (pr_ok q1 (reads_ok h)) (show eC (.str "stretches") [.val (Wd.n t e).wish, .val (lpD o)] = _ from rfl) (st_eq vv)
  have w : (Wd.n t e).fitB vv = !vv := by unfold Wd.fitB Wd.ins; cases vv <;> rfl
  rw [w]
  exact fb_rt (ρ := [.val (Wd.n t e).wish, .val (lpD o)]) (retE_ok e1) rfl
theorem fitsx {o : D} (hf : f ρ = .ok W.wish ρ) (h : inD o (.tup EvT) = some (.bl vv)) (hg : g ρ = .ok (lpD o) ρ) : eOrB (eMethN 2 fn_Moments_fits "Moments" "fits" [] f [.ex g]) (eOrB (eMethN 2 fn_Answer_fits "Answer" "fits" [] f [.ex g]) (eMethN 2 fn_Number_fits "Number" "fits" [] f [.ex g])) ρ = .ok (.bl (W.fitB vv)) ρ := by
  cases W with
  | m t s b e0 => exact orB1 (mt1 hf hg (isM t s b e0) (nk_fits _) (fits_m h t s b e0))
  | a t e0 => exact orB2 (mt_bad hf (nMa t e0)) (orB1 (mt1 hf hg (isA t e0) (nk_fits _) (fits_a h t e0)))
  | n t e0 => exact orB2 (mt_bad hf (nMn t e0)) (orB2 (mt_bad hf (nAn t e0)) (mt1 hf hg (isN' t e0) (nk_fits _) (fits_n h t e0)))
/-! ### uses_window, wants_begins -/
theorem uw_m (t : Fin 7) (s : Fin 4) (b e : Bool) : fn_Moments_uses_window [.val (Wd.m t s b e).wish] = .ok (.bl (Wd.m t s b e).uw) [.val (Wd.m t s b e).wish] := by
  have q0 : eVar 0 [.val (Wd.m t s b e).wish] = .ok (Wd.m t s b e).wish [.val (Wd.m t s b e).wish] := rfl
  have e1 := fld_ok q0 (f_within t s b e)
  have e2 := eop2_ok (fld_ok q0 (f_form t s b e)) (show eC (.str "cut") [.val (Wd.m t s b e).wish] = _ from rfl) (sM_eq s 3)
  refine fn_rt (ρ := [.val (Wd.m t s b e).wish]) (retE_ok ?_) rfl
  show eOr _ _ [.val (Wd.m t s b e).wish] = _
  cases b
  · unfold eOr; rw [e1]; simpa [truth, Wd.uw] using e2
  · unfold eOr; rw [e1]; simp [truth, Wd.uw]
theorem uw_a (t : Fin 3) (e : Bool) : fn_Answer_uses_window [.val (Wd.a t e).wish] = .ok (.bl (Wd.a t e).uw) [.val (Wd.a t e).wish] := by
  have q0 : eVar 0 [.val (Wd.a t e).wish] = .ok (Wd.a t e).wish [.val (Wd.a t e).wish] := rfl
  have k : inD (.str (tA t)) (.tup [.str "busy", .str "covered"]) = some (.bl (decide (t ≠ 2))) := isB_eq ((by decide +kernel : ∀ t : Fin 3, isB (decide (t ≠ 2)) (inD (.str (tA t)) (.tup [.str "busy", .str "covered"])) = true) t)
  have e2 : eTup [(.ex (eC (.str "busy"))), (.ex (eC (.str "covered")))] [.val (Wd.a t e).wish] = .ok (.tup [.str "busy", .str "covered"]) [.val (Wd.a t e).wish] := by simp [fnN, fnB, fnBF, sSeq, sRet, sRetF, sRetN, sIf, sSet, sNil, sExpr, sOwn, sPar, sAsg, sMut, sApp, sPut, eVar, eC, eOp, eCall, eAnd, eOr, eNot, eIf, eTup, eFr, fLst, Opd.ev, evs, Arg.dat, dats, vals?, op1, op2, appF, cells, Arg.cell, sls, wb, finC, eChain, bAnd, bOr, bNot, bBl, bTru, truth, lt_ii, le_ii, gt_ii, ge_ii, neg_i, add_ii, sub_ii, max_ii, min_ii, add_ll, add_tt, sizeLine_eq, gTupD, gsCons, gsNil, gSet, notBor_eq, nbO_val, nbO_no, nbO_own, nbO_oc, ix_l, ix_t, Cell.mu?, Cell.lst?, Mu.lst?, len_l, len_t, eIsi, isi_pr, isiD, tyS, List.lookup, gTup_pr, ix_pr0, ix_pr1, at2_0, at2_1, D.fit, D.pure, pures, D.py, pys, PyData.depth, PyData.depthAll, at3_0, at3_1, at3_2, set3_0, set3_1, set3_2, set2_0, set2_1, eq_ii, ne_ii, eq_ss, ne_ss, eq_bb, ne_bb, int_i, abs_i, Cell.put, putAt, len_scr, isN_int, isN_non, oc_mu, oc_noX, nbO_oc, sTry, trS, exS, Sr.out, dropX, noExn, Cell.noX, eXf, eXis, sRaiseB, eMethN, eMethX, noKey, isIns, eConI, eMkKN, eMkKX, eMkX, eMk, eFld, fldD, sFor, fSeq, seqD, eSFld, sFldS, putK, pow6, pow15, pow18, pow20, pow30, pow31, eOpX, eOpN, gSqD, sParF, sParE, eCallK, sIns, eJs, joinE, FPart.ev, fmtD, eJoin, gPl, gNil, gSeq, gYield, gFor, fMethN, fMethX, onlyX, eMethKX, eMethKN, eCallKPX, eCallKPN, fMethFX, fMethKX, fMethKN]
  exact fn_rt (ρ := [.val (Wd.a t e).wish]) (retE_ok (eop2_ok (fld_ok q0 (f_whatA t e)) e2 k)) rfl
theorem uw_n (t : Fin 6) (e : Bool) : fn_Number_uses_window [.val (Wd.n t e).wish] = .ok (.bl (Wd.n t e).uw) [.val (Wd.n t e).wish] := by
  have q0 : eVar 0 [.val (Wd.n t e).wish] = .ok (Wd.n t e).wish [.val (Wd.n t e).wish] := rfl
  have k : inD (.str (tN t)) (.tup [.str "left", .str "within", .str "touched"]) = some (.bl (decide (t = 2 ∨ t = 3 ∨ t = 4))) := isB_eq ((by decide +kernel : ∀ t : Fin 6, isB (decide (t = 2 ∨ t = 3 ∨ t = 4)) (inD (.str (tN t)) (.tup [.str "left", .str "within", .str "touched"])) = true) t)
  have e2 : eTup [(.ex (eC (.str "left"))), (.ex (eC (.str "within"))), (.ex (eC (.str "touched")))] [.val (Wd.n t e).wish] = .ok (.tup [.str "left", .str "within", .str "touched"]) [.val (Wd.n t e).wish] := by simp [fnN, fnB, fnBF, sSeq, sRet, sRetF, sRetN, sIf, sSet, sNil, sExpr, sOwn, sPar, sAsg, sMut, sApp, sPut, eVar, eC, eOp, eCall, eAnd, eOr, eNot, eIf, eTup, eFr, fLst, Opd.ev, evs, Arg.dat, dats, vals?, op1, op2, appF, cells, Arg.cell, sls, wb, finC, eChain, bAnd, bOr, bNot, bBl, bTru, truth, lt_ii, le_ii, gt_ii, ge_ii, neg_i, add_ii, sub_ii, max_ii, min_ii, add_ll, add_tt, sizeLine_eq, gTupD, gsCons, gsNil, gSet, notBor_eq, nbO_val, nbO_no, nbO_own, nbO_oc, ix_l, ix_t, Cell.mu?, Cell.lst?, Mu.lst?, len_l, len_t, eIsi, isi_pr, isiD, tyS, List.lookup, gTup_pr, ix_pr0, ix_pr1, at2_0, at2_1, D.fit, D.pure, pures, D.py, pys, PyData.depth, PyData.depthAll, at3_0, at3_1, at3_2, set3_0, set3_1, set3_2, set2_0, set2_1, eq_ii, ne_ii, eq_ss, ne_ss, eq_bb, ne_bb, int_i, abs_i, Cell.put, putAt, len_scr, isN_int, isN_non, oc_mu, oc_noX, nbO_oc, sTry, trS, exS, Sr.out, dropX, noExn, Cell.noX, eXf, eXis, sRaiseB, eMethN, eMethX, noKey, isIns, eConI, eMkKN, eMkKX, eMkX, eMk, eFld, fldD, sFor, fSeq, seqD, eSFld, sFldS, putK, pow6, pow15, pow18, pow20, pow30, pow31, eOpX, eOpN, gSqD, sParF, sParE, eCallK, sIns, eJs, joinE, FPart.ev, fmtD, eJoin, gPl, gNil, gSeq, gYield, gFor, fMethN, fMethX, onlyX, eMethKX, eMethKN, eCallKPX, eCallKPN, fMethFX, fMethKX, fMethKN]
  exact fn_rt (ρ := [.val (Wd.n t e).wish]) (retE_ok (eop2_ok (fld_ok q0 (f_whatN t e)) e2 k)) rfl
theorem wb_m (t : Fin 7) (s : Fin 4) (b e : Bool) : fn_Moments_wants_begins [.val (Wd.m t s b e).wish] = .ok (.bl (Wd.m t s b e).wb) [.val (Wd.m t s b e).wish] :=
  fn_rt (ρ := [.val (Wd.m t s b e).wish]) (retE_ok rfl) rfl
theorem wb_a (t : Fin 3) (e : Bool) : fn_Answer_wants_begins [.val (Wd.a t e).wish] = .ok (.bl (Wd.a t e).wb) [.val (Wd.a t e).wish] := by
  have q0 : eVar 0 [.val (Wd.a t e).wish] = .ok (Wd.a t e).wish [.val (Wd.a t e).wish] := rfl
  have k : inD (.str (tA t)) (.tup [.str "covered", .str "clash"]) = some (.bl (decide (t ≠ 0))) := isB_eq ((by decide +kernel : ∀ t : Fin 3, isB (decide (t ≠ 0)) (inD (.str (tA t)) (.tup [.str "covered", .str "clash"])) = true) t)
  have e2 : eTup [(.ex (eC (.str "covered"))), (.ex (eC (.str "clash")))] [.val (Wd.a t e).wish] = .ok (.tup [.str "covered", .str "clash"]) [.val (Wd.a t e).wish] := by simp [fnN, fnB, fnBF, sSeq, sRet, sRetF, sRetN, sIf, sSet, sNil, sExpr, sOwn, sPar, sAsg, sMut, sApp, sPut, eVar, eC, eOp, eCall, eAnd, eOr, eNot, eIf, eTup, eFr, fLst, Opd.ev, evs, Arg.dat, dats, vals?, op1, op2, appF, cells, Arg.cell, sls, wb, finC, eChain, bAnd, bOr, bNot, bBl, bTru, truth, lt_ii, le_ii, gt_ii, ge_ii, neg_i, add_ii, sub_ii, max_ii, min_ii, add_ll, add_tt, sizeLine_eq, gTupD, gsCons, gsNil, gSet, notBor_eq, nbO_val, nbO_no, nbO_own, nbO_oc, ix_l, ix_t, Cell.mu?, Cell.lst?, Mu.lst?, len_l, len_t, eIsi, isi_pr, isiD, tyS, List.lookup, gTup_pr, ix_pr0, ix_pr1, at2_0, at2_1, D.fit, D.pure, pures, D.py, pys, PyData.depth, PyData.depthAll, at3_0, at3_1, at3_2, set3_0, set3_1, set3_2, set2_0, set2_1, eq_ii, ne_ii, eq_ss, ne_ss, eq_bb, ne_bb, int_i, abs_i, Cell.put, putAt, len_scr, isN_int, isN_non, oc_mu, oc_noX, nbO_oc, sTry, trS, exS, Sr.out, dropX, noExn, Cell.noX, eXf, eXis, sRaiseB, eMethN, eMethX, noKey, isIns, eConI, eMkKN, eMkKX, eMkX, eMk, eFld, fldD, sFor, fSeq, seqD, eSFld, sFldS, putK, pow6, pow15, pow18, pow20, pow30, pow31, eOpX, eOpN, gSqD, sParF, sParE, eCallK, sIns, eJs, joinE, FPart.ev, fmtD, eJoin, gPl, gNil, gSeq, gYield, gFor, fMethN, fMethX, onlyX, eMethKX, eMethKN, eCallKPX, eCallKPN, fMethFX, fMethKX, fMethKN]
  exact fn_rt (ρ := [.val (Wd.a t e).wish]) (retE_ok (eop2_ok (fld_ok q0 (f_whatA t e)) e2 k)) rfl
theorem wb_n (t : Fin 6) (e : Bool) : fn_Number_wants_begins [.val (Wd.n t e).wish] = .ok (.bl (Wd.n t e).wb) [.val (Wd.n t e).wish] := by
  have q0 : eVar 0 [.val (Wd.n t e).wish] = .ok (Wd.n t e).wish [.val (Wd.n t e).wish] := rfl
  exact fn_rt (ρ := [.val (Wd.n t e).wish]) (retE_ok (eop2_ok (fld_ok q0 (f_whatN t e)) rfl (tN_eq t 5))) rfl
theorem uwx (hf : f ρ = .ok W.wish ρ) : eOrB (eProp "Moments" fn_Moments_uses_window f) (eOrB (eProp "Answer" fn_Answer_uses_window f) (eProp "Number" fn_Number_uses_window f)) ρ = .ok (.bl W.uw) ρ := by
  cases W with
  | m t s b e => exact orB1 (pr_ok hf (uw_m t s b e))
  | a t e => exact orB2 (pr_bad hf (by decide)) (orB1 (pr_ok hf (uw_a t e)))
  | n t e => exact orB2 (pr_bad hf (by decide)) (orB2 (pr_bad hf (by decide)) (pr_ok hf (uw_n t e)))
theorem wbx (hf : f ρ = .ok W.wish ρ) : eOrB (eProp "Moments" fn_Moments_wants_begins f) (eOrB (eProp "Answer" fn_Answer_wants_begins f) (eProp "Number" fn_Number_wants_begins f)) ρ = .ok (.bl W.wb) ρ := by
  cases W with
  | m t s b e => exact orB1 (pr_ok hf (wb_m t s b e))
  | a t e => exact orB2 (pr_bad hf (by decide)) (orB1 (pr_ok hf (wb_a t e)))
  | n t e => exact orB2 (pr_bad hf (by decide)) (orB2 (pr_bad hf (by decide)) (pr_ok hf (wb_n t e)))
end
/-! ### loops without rules -/
theorem lp_init {o : D} (h : (notInD o (.tup StT) = some (.bl false)) ∨ (notInD o (.tup StT) = some (.bl true) ∧ notInD o (.tup EvT) = some (.bl false))) : fn_Loop_init [.bor (.obj "Loop" [] []), .val o, .val (.tup []), .val (.tup []), .val (.tup [])] = .ok .non [.bor (.obj "Loop" ["order", "ahead", "each", "behind", "known"] [o, .tup [], .tup [], .tup [], .tup []]), .val o, .val (.tup []), .val (.tup []), .val (.tup [])] := by
  have c1 : fn_check_order [.val o] = .ok .non [.val o] := by
    unfold StT EvT at h
    unfold fn_check_order sem_check_order
    rcases h with h | ⟨h1, h2⟩
    · simp [fnN, fnB, fnBF, sSeq, sRet, sRetF, sRetN, sIf, sSet, sNil, sExpr, sOwn, sPar, sAsg, sMut, sApp, sPut, eVar, eC, eOp, eCall, eAnd, eOr, eNot, eIf, eTup, eFr, fLst, Opd.ev, evs, Arg.dat, dats, vals?, op1, op2, appF, cells, Arg.cell, sls, wb, finC, eChain, bAnd, bOr, bNot, bBl, bTru, truth, lt_ii, le_ii, gt_ii, ge_ii, neg_i, add_ii, sub_ii, max_ii, min_ii, add_ll, add_tt, sizeLine_eq, gTupD, gsCons, gsNil, gSet, notBor_eq, nbO_val, nbO_no, nbO_own, nbO_oc, ix_l, ix_t, Cell.mu?, Cell.lst?, Mu.lst?, len_l, len_t, eIsi, isi_pr, isiD, tyS, List.lookup, gTup_pr, ix_pr0, ix_pr1, at2_0, at2_1, D.fit, D.pure, pures, D.py, pys, PyData.depth, PyData.depthAll, at3_0, at3_1, at3_2, set3_0, set3_1, set3_2, set2_0, set2_1, eq_ii, ne_ii, eq_ss, ne_ss, eq_bb, ne_bb, int_i, abs_i, Cell.put, putAt, len_scr, isN_int, isN_non, oc_mu, oc_noX, nbO_oc, sTry, trS, exS, Sr.out, dropX, noExn, Cell.noX, eXf, eXis, sRaiseB, eMethN, eMethX, noKey, isIns, eConI, eMkKN, eMkKX, eMkX, eMk, eFld, fldD, sFor, fSeq, seqD, eSFld, sFldS, putK, pow6, pow15, pow18, pow20, pow30, pow31, eOpX, eOpN, gSqD, sParF, sParE, eCallK, sIns, eJs, joinE, FPart.ev, fmtD, eJoin, gPl, gNil, gSeq, gYield, gFor, fMethN, fMethX, onlyX, eMethKX, eMethKN, eCallKPX, eCallKPN, fMethFX, fMethKX, fMethKN, t_check_order_1, h]
    · simp [fnN, fnB, fnBF, sSeq, sRet, sRetF, sRetN, sIf, sSet, sNil, sExpr, sOwn, sPar, sAsg, sMut, sApp, sPut, eVar, eC, eOp, eCall, eAnd, eOr, eNot, eIf, eTup, eFr, fLst, Opd.ev, evs, Arg.dat, dats, vals?, op1, op2, appF, cells, Arg.cell, sls, wb, finC, eChain, bAnd, bOr, bNot, bBl, bTru, truth, lt_ii, le_ii, gt_ii, ge_ii, neg_i, add_ii, sub_ii, max_ii, min_ii, add_ll, add_tt, sizeLine_eq, gTupD, gsCons, gsNil, gSet, notBor_eq, nbO_val, nbO_no, nbO_own, nbO_oc, ix_l, ix_t, Cell.mu?, Cell.lst?, Mu.lst?, len_l, len_t, eIsi, isi_pr, isiD, tyS, List.lookup, gTup_pr, ix_pr0, ix_pr1, at2_0, at2_1, D.fit, D.pure, pures, D.py, pys, PyData.depth, PyData.depthAll, at3_0, at3_1, at3_2, set3_0, set3_1, set3_2, set2_0, set2_1, eq_ii, ne_ii, eq_ss, ne_ss, eq_bb, ne_bb, int_i, abs_i, Cell.put, putAt, len_scr, isN_int, isN_non, oc_mu, oc_noX, nbO_oc, sTry, trS, exS, Sr.out, dropX, noExn, Cell.noX, eXf, eXis, sRaiseB, eMethN, eMethX, noKey, isIns, eConI, eMkKN, eMkKX, eMkX, eMk, eFld, fldD, sFor, fSeq, seqD, eSFld, sFldS, putK, pow6, pow15, pow18, pow20, pow30, pow31, eOpX, eOpN, gSqD, sParF, sParE, eCallK, sIns, eJs, joinE, FPart.ev, fmtD, eJoin, gPl, gNil, gSeq, gYield, gFor, fMethN, fMethX, onlyX, eMethKX, eMethKN, eCallKPX, eCallKPN, fMethFX, fMethKX, fMethKN, t_check_order_1, h1, h2]
  have c2 : ∀ s : Str, fn_check_rules [.val (.str s), .val (.tup []), .val o] = .ok .non [.val (.str s), .val (.tup []), .val o] := fun s => by
    unfold fn_check_rules sem_check_rules
    simp [fnN, fnB, fnBF, sSeq, sRet, sRetF, sRetN, sIf, sSet, sNil, sExpr, sOwn, sPar, sAsg, sMut, sApp, sPut, eVar, eC, eOp, eCall, eAnd, eOr, eNot, eIf, eTup, eFr, fLst, Opd.ev, evs, Arg.dat, dats, vals?, op1, op2, appF, cells, Arg.cell, sls, wb, finC, eChain, bAnd, bOr, bNot, bBl, bTru, truth, lt_ii, le_ii, gt_ii, ge_ii, neg_i, add_ii, sub_ii, max_ii, min_ii, add_ll, add_tt, sizeLine_eq, gTupD, gsCons, gsNil, gSet, notBor_eq, nbO_val, nbO_no, nbO_own, nbO_oc, ix_l, ix_t, Cell.mu?, Cell.lst?, Mu.lst?, len_l, len_t, eIsi, isi_pr, isiD, tyS, List.lookup, gTup_pr, ix_pr0, ix_pr1, at2_0, at2_1, D.fit, D.pure, pures, D.py, pys, PyData.depth, PyData.depthAll, at3_0, at3_1, at3_2, set3_0, set3_1, set3_2, set2_0, set2_1, eq_ii, ne_ii, eq_ss, ne_ss, eq_bb, ne_bb, int_i, abs_i, Cell.put, putAt, len_scr, isN_int, isN_non, oc_mu, oc_noX, nbO_oc, sTry, trS, exS, Sr.out, dropX, noExn, Cell.noX, eXf, eXis, sRaiseB, eMethN, eMethX, noKey, isIns, eConI, eMkKN, eMkKX, eMkX, eMk, eFld, fldD, sFor, fSeq, seqD, eSFld, sFldS, putK, pow6, pow15, pow18, pow20, pow30, pow31, eOpX, eOpN, gSqD, sParF, sParE, eCallK, sIns, eJs, joinE, FPart.ev, fmtD, eJoin, gPl, gNil, gSeq, gYield, gFor, fMethN, fMethX, onlyX, eMethKX, eMethKN, eCallKPX, eCallKPN, fMethFX, fMethKX, fMethKN, t_check_rules_2, t_check_rules_3, t_check_rules_5, fEnS, enuS, loopD]
  unfold fn_Loop_init sem_Loop_init
  simp [fnN, fnB, fnBF, sSeq, sRet, sRetF, sRetN, sIf, sSet, sNil, sExpr, sOwn, sPar, sAsg, sMut, sApp, sPut, eVar, eC, eOp, eCall, eAnd, eOr, eNot, eIf, eTup, eFr, fLst, Opd.ev, evs, Arg.dat, dats, vals?, op1, op2, appF, cells, Arg.cell, sls, wb, finC, eChain, bAnd, bOr, bNot, bBl, bTru, truth, lt_ii, le_ii, gt_ii, ge_ii, neg_i, add_ii, sub_ii, max_ii, min_ii, add_ll, add_tt, sizeLine_eq, gTupD, gsCons, gsNil, gSet, notBor_eq, nbO_val, nbO_no, nbO_own, nbO_oc, ix_l, ix_t, Cell.mu?, Cell.lst?, Mu.lst?, len_l, len_t, eIsi, isi_pr, isiD, tyS, List.lookup, gTup_pr, ix_pr0, ix_pr1, at2_0, at2_1, D.fit, D.pure, pures, D.py, pys, PyData.depth, PyData.depthAll, at3_0, at3_1, at3_2, set3_0, set3_1, set3_2, set2_0, set2_1, eq_ii, ne_ii, eq_ss, ne_ss, eq_bb, ne_bb, int_i, abs_i, Cell.put, putAt, len_scr, isN_int, isN_non, oc_mu, oc_noX, nbO_oc, sTry, trS, exS, Sr.out, dropX, noExn, Cell.noX, eXf, eXis, sRaiseB, eMethN, eMethX, noKey, isIns, eConI, eMkKN, eMkKX, eMkX, eMk, eFld, fldD, sFor, fSeq, seqD, eSFld, sFldS, putK, pow6, pow15, pow18, pow20, pow30, pow31, eOpX, eOpN, gSqD, sParF, sParE, eCallK, sIns, eJs, joinE, FPart.ev, fmtD, eJoin, gPl, gNil, gSeq, gYield, gFor, fMethN, fMethX, onlyX, eMethKX, eMethKN, eCallKPX, eCallKPN, fMethFX, fMethKX, fMethKN, t_Loop_init_1, t_Loop_init_2, t_Loop_init_3, t_Loop_init_4, t_Loop_init_5, t_Loop_init_6, t_Loop_init_7, t_Loop_init_8, t_Loop_init_9, t_Loop_init_10, eCallX, c1, c2, eSortSC0, tupD, addD]
theorem lp_mk {f : EX} {ρ ρ1 : PEnv} {o : D} (hf : f ρ = .ok o ρ1) (h : (notInD o (.tup StT) = some (.bl false)) ∨ (notInD o (.tup StT) = some (.bl true) ∧ notInD o (.tup EvT) = some (.bl false))) : eMk 5 fn_Loop_init "Loop" [(.tup []), (.tup []), (.tup [])] [(.ex f)] ρ = .ok (lpD o) ρ1 := by
  have m := mk_vals (n := 5) (fn := fn_Loop_init) (c := "Loop") (ds := [o]) (dfl := [.tup [], .tup [], .tup []]) rfl (lp_init h) ρ1
  unfold eMk
  have e : evs [.ex f] ρ = .ok [.val o] ρ1 := by simp [evs, Opd.ev, hf]
  rw [e, Rs.bind_ok]
  exact congrArg Rs.nx m
end Spk
namespace Spk
open PySem PySem.Spec PyProof.Rows L2
theorem eindex_ok {f g : EX} {ρ : PEnv} {ds : List D} {y : D} {j : Nat} (h : f ρ = .ok (.lst ds) ρ) (k : g ρ = .ok y ρ) (h1 : (D.lst ds).fit = true) (h2 : y.fit = true) (h3 : (ds.findIdx? fun z => eqv z y) = some j) : eIndex f g ρ = .ok (.int (j : Nat)) ρ := by
  unfold eIndex
  simp only [h, Rs.bind_ok, k]
  rw [if_pos ⟨h1, h2⟩, h3]; rfl
theorem ecount_ok {f g : EX} {ρ : PEnv} {ds : List D} {y : D} (h : f ρ = .ok (.lst ds) ρ) (k : g ρ = .ok y ρ) (h1 : (D.lst ds).fit = true) (h2 : y.fit = true) : eCount f g ρ = .ok (.int (ds.countP fun z => eqv z y : Nat)) ρ := by
  unfold eCount
  simp only [h, Rs.bind_ok, k]
  rw [if_pos ⟨h1, h2⟩]; rfl
theorem pures_bl : ∀ bs : List Bool, pures (bs.map D.bl) = true
  | [] => rfl
  | b :: bs => by show ((D.bl b).pure && pures (bs.map D.bl)) = true; rw [pures_bl bs]; rfl
theorem depth_bl : ∀ bs : List Bool, PyData.depthAll (pys (bs.map D.bl)) ≤ 1
  | [] => by simp [pys, PyData.depthAll]
  | b :: bs => by
    have := depth_bl bs
    simp only [List.map_cons, pys, D.py, PyData.depthAll, PyData.depth]
    omega
theorem fit_bls (bs : List Bool) : (D.lst (bs.map D.bl)).fit = true := by
  have h := depth_bl bs
  unfold D.fit
  refine Bool.and_eq_true_iff.mpr ⟨pures_bl bs, decide_eq_true ?_⟩
  simp only [D.py, PyData.depth]
  omega
theorem fit_b (b : Bool) : (D.bl b).fit = true := by cases b <;> decide +kernel
theorem eqv_b (a b : Bool) : eqv (.bl a) (.bl b) = (a == b) := by cases a <;> cases b <;> decide +kernel
theorem bl_ne (i : Bool) : neD (.bl i) (.bl i) = some (.bl false) := isF_eq ((by decide +kernel : ∀ i : Bool, isF (neD (.bl i) (.bl i)) = true) i)
/-- the list's wishes: how many are this one -/
theorem count_one {Ws : List Wd} {W : Wd} (hn : Ws.Nodup) (hm : W ∈ Ws) : ((Ws.map fun W' => decide (W' = W)).map D.bl).countP (fun z => eqv z (.bl true)) = 1 := by
  rw [List.map_map, List.countP_map]
  have e : ((fun z => eqv z (D.bl true)) ∘ (D.bl ∘ fun W' => decide (W' = W))) = fun W' => (W' == W) := by
    funext W'
    show eqv (.bl (decide (W' = W))) (.bl true) = _
    rw [eqv_b]
    cases h : decide (W' = W)
    · have := of_decide_eq_false h
      rw [beq_eq_false_iff_ne.mpr this]; rfl
    · have := of_decide_eq_true h
      subst this
      simp
  rw [e]
  have h1 := List.nodup_iff_count.mp hn W
  have h2 := List.count_pos_iff.mpr hm
  show Ws.count W = 1
  omega
section
variable {ρ : PEnv} {W : Wd} {P : PEnv}
/-- what a turn's statements may rest on -/
structure Knows (ρ : PEnv) (W : Wd) (Ws : List Wd) (oe os : D) : Prop where
  len : ρ.length = 19
  v4 : eVar 4 ρ = .ok (.lst (Ws.map Wd.wish)) ρ
  v5 : eVar 5 ρ = .ok W.kd ρ
  v6 : eVar 6 ρ = .ok W.tm ρ
  v7 : eVar 7 ρ = .ok W.sh ρ
  v8 : eVar 8 ρ = .ok W.ib ρ
  v9 : eVar 9 ρ = .ok W.wd ρ
  v10 : eVar 10 ρ = .ok (lpD oe) ρ
  v11 : eVar 11 ρ = .ok (lpD os) ρ
  v13 : eVar 13 ρ = .ok W.wish ρ
variable {Ws : List Wd} {oe os : D}
theorem kd_m (W : Wd) : eqD W.kd (.str "moments") = some (.bl (match W with | .m .. => true | _ => false)) := by
  cases W <;> (unfold Wd.kd; simp [fnN, fnB, fnBF, sSeq, sRet, sRetF, sRetN, sIf, sSet, sNil, sExpr, sOwn, sPar, sAsg, sMut, sApp, sPut, eVar, eC, eOp, eCall, eAnd, eOr, eNot, eIf, eTup, eFr, fLst, Opd.ev, evs, Arg.dat, dats, vals?, op1, op2, appF, cells, Arg.cell, sls, wb, finC, eChain, bAnd, bOr, bNot, bBl, bTru, truth, lt_ii, le_ii, gt_ii, ge_ii, neg_i, add_ii, sub_ii, max_ii, min_ii, add_ll, add_tt, sizeLine_eq, gTupD, gsCons, gsNil, gSet, notBor_eq, nbO_val, nbO_no, nbO_own, nbO_oc, ix_l, ix_t, Cell.mu?, Cell.lst?, Mu.lst?, len_l, len_t, eIsi, isi_pr, isiD, tyS, List.lookup, gTup_pr, ix_pr0, ix_pr1, at2_0, at2_1, D.fit, D.pure, pures, D.py, pys, PyData.depth, PyData.depthAll, at3_0, at3_1, at3_2, set3_0, set3_1, set3_2, set2_0, set2_1, eq_ii, ne_ii, eq_ss, ne_ss, eq_bb, ne_bb, int_i, abs_i, Cell.put, putAt, len_scr, isN_int, isN_non, oc_mu, oc_noX, nbO_oc, sTry, trS, exS, Sr.out, dropX, noExn, Cell.noX, eXf, eXis, sRaiseB, eMethN, eMethX, noKey, isIns, eConI, eMkKN, eMkKX, eMkX, eMk, eFld, fldD, sFor, fSeq, seqD, eSFld, sFldS, putK, pow6, pow15, pow18, pow20, pow30, pow31, eOpX, eOpN, gSqD, sParF, sParE, eCallK, sIns, eJs, joinE, FPart.ev, fmtD, eJoin, gPl, gNil, gSeq, gYield, gFor, fMethN, fMethX, onlyX, eMethKX, eMethKN, eCallKPX, eCallKPN, fMethFX, fMethKX, fMethKN])
theorem kd_nm (W : Wd) : neD W.kd (.str "moments") = some (.bl (match W with | .m .. => false | _ => true)) := by
  cases W <;> (unfold Wd.kd; simp [fnN, fnB, fnBF, sSeq, sRet, sRetF, sRetN, sIf, sSet, sNil, sExpr, sOwn, sPar, sAsg, sMut, sApp, sPut, eVar, eC, eOp, eCall, eAnd, eOr, eNot, eIf, eTup, eFr, fLst, Opd.ev, evs, Arg.dat, dats, vals?, op1, op2, appF, cells, Arg.cell, sls, wb, finC, eChain, bAnd, bOr, bNot, bBl, bTru, truth, lt_ii, le_ii, gt_ii, ge_ii, neg_i, add_ii, sub_ii, max_ii, min_ii, add_ll, add_tt, sizeLine_eq, gTupD, gsCons, gsNil, gSet, notBor_eq, nbO_val, nbO_no, nbO_own, nbO_oc, ix_l, ix_t, Cell.mu?, Cell.lst?, Mu.lst?, len_l, len_t, eIsi, isi_pr, isiD, tyS, List.lookup, gTup_pr, ix_pr0, ix_pr1, at2_0, at2_1, D.fit, D.pure, pures, D.py, pys, PyData.depth, PyData.depthAll, at3_0, at3_1, at3_2, set3_0, set3_1, set3_2, set2_0, set2_1, eq_ii, ne_ii, eq_ss, ne_ss, eq_bb, ne_bb, int_i, abs_i, Cell.put, putAt, len_scr, isN_int, isN_non, oc_mu, oc_noX, nbO_oc, sTry, trS, exS, Sr.out, dropX, noExn, Cell.noX, eXf, eXis, sRaiseB, eMethN, eMethX, noKey, isIns, eConI, eMkKN, eMkKX, eMkX, eMk, eFld, fldD, sFor, fSeq, seqD, eSFld, sFldS, putK, pow6, pow15, pow18, pow20, pow30, pow31, eOpX, eOpN, gSqD, sParF, sParE, eCallK, sIns, eJs, joinE, FPart.ev, fmtD, eJoin, gPl, gNil, gSeq, gYield, gFor, fMethN, fMethX, onlyX, eMethKX, eMethKN, eCallKPX, eCallKPN, fMethFX, fMethKX, fMethKN])
theorem ends_eq (W : Wd) : neD W.wd W.wd = some (.bl false) := by
  unfold Wd.wd; simp [fnN, fnB, fnBF, sSeq, sRet, sRetF, sRetN, sIf, sSet, sNil, sExpr, sOwn, sPar, sAsg, sMut, sApp, sPut, eVar, eC, eOp, eCall, eAnd, eOr, eNot, eIf, eTup, eFr, fLst, Opd.ev, evs, Arg.dat, dats, vals?, op1, op2, appF, cells, Arg.cell, sls, wb, finC, eChain, bAnd, bOr, bNot, bBl, bTru, truth, lt_ii, le_ii, gt_ii, ge_ii, neg_i, add_ii, sub_ii, max_ii, min_ii, add_ll, add_tt, sizeLine_eq, gTupD, gsCons, gsNil, gSet, notBor_eq, nbO_val, nbO_no, nbO_own, nbO_oc, ix_l, ix_t, Cell.mu?, Cell.lst?, Mu.lst?, len_l, len_t, eIsi, isi_pr, isiD, tyS, List.lookup, gTup_pr, ix_pr0, ix_pr1, at2_0, at2_1, D.fit, D.pure, pures, D.py, pys, PyData.depth, PyData.depthAll, at3_0, at3_1, at3_2, set3_0, set3_1, set3_2, set2_0, set2_1, eq_ii, ne_ii, eq_ss, ne_ss, eq_bb, ne_bb, int_i, abs_i, Cell.put, putAt, len_scr, isN_int, isN_non, oc_mu, oc_noX, nbO_oc, sTry, trS, exS, Sr.out, dropX, noExn, Cell.noX, eXf, eXis, sRaiseB, eMethN, eMethX, noKey, isIns, eConI, eMkKN, eMkKX, eMkX, eMk, eFld, fldD, sFor, fSeq, seqD, eSFld, sFldS, putK, pow6, pow15, pow18, pow20, pow30, pow31, eOpX, eOpN, gSqD, sParF, sParE, eCallK, sIns, eJs, joinE, FPart.ev, fmtD, eJoin, gPl, gNil, gSeq, gYield, gFor, fMethN, fMethX, onlyX, eMethKX, eMethKN, eCallKPX, eCallKPN, fMethFX, fMethKX, fMethKN]
theorem tm_ne (W : Wd) : neD W.tm W.tm = some (.bl false) := by
  cases W <;> (unfold Wd.tm; simp [fnN, fnB, fnBF, sSeq, sRet, sRetF, sRetN, sIf, sSet, sNil, sExpr, sOwn, sPar, sAsg, sMut, sApp, sPut, eVar, eC, eOp, eCall, eAnd, eOr, eNot, eIf, eTup, eFr, fLst, Opd.ev, evs, Arg.dat, dats, vals?, op1, op2, appF, cells, Arg.cell, sls, wb, finC, eChain, bAnd, bOr, bNot, bBl, bTru, truth, lt_ii, le_ii, gt_ii, ge_ii, neg_i, add_ii, sub_ii, max_ii, min_ii, add_ll, add_tt, sizeLine_eq, gTupD, gsCons, gsNil, gSet, notBor_eq, nbO_val, nbO_no, nbO_own, nbO_oc, ix_l, ix_t, Cell.mu?, Cell.lst?, Mu.lst?, len_l, len_t, eIsi, isi_pr, isiD, tyS, List.lookup, gTup_pr, ix_pr0, ix_pr1, at2_0, at2_1, D.fit, D.pure, pures, D.py, pys, PyData.depth, PyData.depthAll, at3_0, at3_1, at3_2, set3_0, set3_1, set3_2, set2_0, set2_1, eq_ii, ne_ii, eq_ss, ne_ss, eq_bb, ne_bb, int_i, abs_i, Cell.put, putAt, len_scr, isN_int, isN_non, oc_mu, oc_noX, nbO_oc, sTry, trS, exS, Sr.out, dropX, noExn, Cell.noX, eXf, eXis, sRaiseB, eMethN, eMethX, noKey, isIns, eConI, eMkKN, eMkKX, eMkX, eMk, eFld, fldD, sFor, fSeq, seqD, eSFld, sFldS, putK, pow6, pow15, pow18, pow20, pow30, pow31, eOpX, eOpN, gSqD, sParF, sParE, eCallK, sIns, eJs, joinE, FPart.ev, fmtD, eJoin, gPl, gNil, gSeq, gYield, gFor, fMethN, fMethX, onlyX, eMethKX, eMethKN, eCallKPX, eCallKPN, fMethFX, fMethKX, fMethKN])
theorem isiq_ok {f : EX} {tb : List (String × Bool)} {ow : List (Str × Bool)} {d : D} {b : Bool} (h : f ρ = .ok d ρ) (k : isiD tb ow d = some b) : eIsi tb ow (.ex f) ρ = .ok (.bl b) ρ := by
  simp [eIsi, eOp, evs, Opd.ev, h, dats, Arg.dat, op1, k, Rs.lift]
theorem enot_ok {f : EX} {b : Bool} (h : f ρ = .ok (.bl b) ρ) : eNot (.ex f) ρ = .ok (.bl (!b)) ρ := by
  simp [fnN, fnB, fnBF, sSeq, sRet, sRetF, sRetN, sIf, sSet, sNil, sExpr, sOwn, sPar, sAsg, sMut, sApp, sPut, eVar, eC, eOp, eCall, eAnd, eOr, eNot, eIf, eTup, eFr, fLst, Opd.ev, evs, Arg.dat, dats, vals?, op1, op2, appF, cells, Arg.cell, sls, wb, finC, eChain, bAnd, bOr, bNot, bBl, bTru, truth, lt_ii, le_ii, gt_ii, ge_ii, neg_i, add_ii, sub_ii, max_ii, min_ii, add_ll, add_tt, sizeLine_eq, gTupD, gsCons, gsNil, gSet, notBor_eq, nbO_val, nbO_no, nbO_own, nbO_oc, ix_l, ix_t, Cell.mu?, Cell.lst?, Mu.lst?, len_l, len_t, eIsi, isi_pr, isiD, tyS, List.lookup, gTup_pr, ix_pr0, ix_pr1, at2_0, at2_1, D.fit, D.pure, pures, D.py, pys, PyData.depth, PyData.depthAll, at3_0, at3_1, at3_2, set3_0, set3_1, set3_2, set2_0, set2_1, eq_ii, ne_ii, eq_ss, ne_ss, eq_bb, ne_bb, int_i, abs_i, Cell.put, putAt, len_scr, isN_int, isN_non, oc_mu, oc_noX, nbO_oc, sTry, trS, exS, Sr.out, dropX, noExn, Cell.noX, eXf, eXis, sRaiseB, eMethN, eMethX, noKey, isIns, eConI, eMkKN, eMkKX, eMkX, eMk, eFld, fldD, sFor, fSeq, seqD, eSFld, sFldS, putK, pow6, pow15, pow18, pow20, pow30, pow31, eOpX, eOpN, gSqD, sParF, sParE, eCallK, sIns, eJs, joinE, FPart.ev, fmtD, eJoin, gPl, gNil, gSeq, gYield, gFor, fMethN, fMethX, onlyX, eMethKX, eMethKN, eCallKPX, eCallKPN, fMethFX, fMethKX, fMethKN, h]
/-- isinstance(wish, Wish) -/
theorem isi_w (W : Wd) (h : eVar 13 ρ = .ok W.wish ρ) : eIsi tb_own ow_Wish (.ex (eVar 13)) ρ = .ok (.bl true) ρ :=
  isiq_ok h (by cases W <;> simp [fnN, fnB, fnBF, sSeq, sRet, sRetF, sRetN, sIf, sSet, sNil, sExpr, sOwn, sPar, sAsg, sMut, sApp, sPut, eVar, eC, eOp, eCall, eAnd, eOr, eNot, eIf, eTup, eFr, fLst, Opd.ev, evs, Arg.dat, dats, vals?, op1, op2, appF, cells, Arg.cell, sls, wb, finC, eChain, bAnd, bOr, bNot, bBl, bTru, truth, lt_ii, le_ii, gt_ii, ge_ii, neg_i, add_ii, sub_ii, max_ii, min_ii, add_ll, add_tt, sizeLine_eq, gTupD, gsCons, gsNil, gSet, notBor_eq, nbO_val, nbO_no, nbO_own, nbO_oc, ix_l, ix_t, Cell.mu?, Cell.lst?, Mu.lst?, len_l, len_t, eIsi, isi_pr, isiD, tyS, List.lookup, gTup_pr, ix_pr0, ix_pr1, at2_0, at2_1, D.fit, D.pure, pures, D.py, pys, PyData.depth, PyData.depthAll, at3_0, at3_1, at3_2, set3_0, set3_1, set3_2, set2_0, set2_1, eq_ii, ne_ii, eq_ss, ne_ss, eq_bb, ne_bb, int_i, abs_i, Cell.put, putAt, len_scr, isN_int, isN_non, oc_mu, oc_noX, nbO_oc, sTry, trS, exS, Sr.out, dropX, noExn, Cell.noX, eXf, eXis, sRaiseB, eMethN, eMethX, noKey, isIns, eConI, eMkKN, eMkKX, eMkX, eMk, eFld, fldD, sFor, fSeq, seqD, eSFld, sFldS, putK, pow6, pow15, pow18, pow20, pow30, pow31, eOpX, eOpN, gSqD, sParF, sParE, eCallK, sIns, eJs, joinE, FPart.ev, fmtD, eJoin, gPl, gNil, gSeq, gYield, gFor, fMethN, fMethX, onlyX, eMethKX, eMethKN, eCallKPX, eCallKPN, fMethFX, fMethKX, fMethKN, Wd.wish, momD, ansD, numD, ow_Wish, tb_own])
def isK : Wd → Bool × Bool × Bool
  | .m .. => (true, false, false)
  | .a .. => (false, true, false)
  | .n .. => (false, false, true)
theorem isi_3 (W : Wd) (h : eVar 13 ρ = .ok W.wish ρ) : eIsi tb_own ow_Moments (.ex (eVar 13)) ρ = .ok (.bl (isK W).1) ρ ∧ eIsi tb_own ow_Answer (.ex (eVar 13)) ρ = .ok (.bl (isK W).2.1) ρ ∧ eIsi tb_own ow_Number (.ex (eVar 13)) ρ = .ok (.bl (isK W).2.2) ρ :=
  ⟨isiq_ok h (by cases W <;> simp [fnN, fnB, fnBF, sSeq, sRet, sRetF, sRetN, sIf, sSet, sNil, sExpr, sOwn, sPar, sAsg, sMut, sApp, sPut, eVar, eC, eOp, eCall, eAnd, eOr, eNot, eIf, eTup, eFr, fLst, Opd.ev, evs, Arg.dat, dats, vals?, op1, op2, appF, cells, Arg.cell, sls, wb, finC, eChain, bAnd, bOr, bNot, bBl, bTru, truth, lt_ii, le_ii, gt_ii, ge_ii, neg_i, add_ii, sub_ii, max_ii, min_ii, add_ll, add_tt, sizeLine_eq, gTupD, gsCons, gsNil, gSet, notBor_eq, nbO_val, nbO_no, nbO_own, nbO_oc, ix_l, ix_t, Cell.mu?, Cell.lst?, Mu.lst?, len_l, len_t, eIsi, isi_pr, isiD, tyS, List.lookup, gTup_pr, ix_pr0, ix_pr1, at2_0, at2_1, D.fit, D.pure, pures, D.py, pys, PyData.depth, PyData.depthAll, at3_0, at3_1, at3_2, set3_0, set3_1, set3_2, set2_0, set2_1, eq_ii, ne_ii, eq_ss, ne_ss, eq_bb, ne_bb, int_i, abs_i, Cell.put, putAt, len_scr, isN_int, isN_non, oc_mu, oc_noX, nbO_oc, sTry, trS, exS, Sr.out, dropX, noExn, Cell.noX, eXf, eXis, sRaiseB, eMethN, eMethX, noKey, isIns, eConI, eMkKN, eMkKX, eMkX, eMk, eFld, fldD, sFor, fSeq, seqD, eSFld, sFldS, putK, pow6, pow15, pow18, pow20, pow30, pow31, eOpX, eOpN, gSqD, sParF, sParE, eCallK, sIns, eJs, joinE, FPart.ev, fmtD, eJoin, gPl, gNil, gSeq, gYield, gFor, fMethN, fMethX, onlyX, eMethKX, eMethKN, eCallKPX, eCallKPN, fMethFX, fMethKX, fMethKN, Wd.wish, momD, ansD, numD, ow_Moments, tb_own, isK]), isiq_ok h (by cases W <;> simp [fnN, fnB, fnBF, sSeq, sRet, sRetF, sRetN, sIf, sSet, sNil, sExpr, sOwn, sPar, sAsg, sMut, sApp, sPut, eVar, eC, eOp, eCall, eAnd, eOr, eNot, eIf, eTup, eFr, fLst, Opd.ev, evs, Arg.dat, dats, vals?, op1, op2, appF, cells, Arg.cell, sls, wb, finC, eChain, bAnd, bOr, bNot, bBl, bTru, truth, lt_ii, le_ii, gt_ii, ge_ii, neg_i, add_ii, sub_ii, max_ii, min_ii, add_ll, add_tt, sizeLine_eq, gTupD, gsCons, gsNil, gSet, notBor_eq, nbO_val, nbO_no, nbO_own, nbO_oc, ix_l, ix_t, Cell.mu?, Cell.lst?, Mu.lst?, len_l, len_t, eIsi, isi_pr, isiD, tyS, List.lookup, gTup_pr, ix_pr0, ix_pr1, at2_0, at2_1, D.fit, D.pure, pures, D.py, pys, PyData.depth, PyData.depthAll, at3_0, at3_1, at3_2, set3_0, set3_1, set3_2, set2_0, set2_1, eq_ii, ne_ii, eq_ss, ne_ss, eq_bb, ne_bb, int_i, abs_i, Cell.put, putAt, len_scr, isN_int, isN_non, oc_mu, oc_noX, nbO_oc, sTry, trS, exS, Sr.out, dropX, noExn, Cell.noX, eXf, eXis, sRaiseB, eMethN, eMethX, noKey, isIns, eConI, eMkKN, eMkKX, eMkX, eMk, eFld, fldD, sFor, fSeq, seqD, eSFld, sFldS, putK, pow6, pow15, pow18, pow20, pow30, pow31, eOpX, eOpN, gSqD, sParF, sParE, eCallK, sIns, eJs, joinE, FPart.ev, fmtD, eJoin, gPl, gNil, gSeq, gYield, gFor, fMethN, fMethX, onlyX, eMethKX, eMethKN, eCallKPX, eCallKPN, fMethFX, fMethKX, fMethKN, Wd.wish, momD, ansD, numD, ow_Answer, tb_own, isK]), isiq_ok h (by cases W <;> simp [fnN, fnB, fnBF, sSeq, sRet, sRetF, sRetN, sIf, sSet, sNil, sExpr, sOwn, sPar, sAsg, sMut, sApp, sPut, eVar, eC, eOp, eCall, eAnd, eOr, eNot, eIf, eTup, eFr, fLst, Opd.ev, evs, Arg.dat, dats, vals?, op1, op2, appF, cells, Arg.cell, sls, wb, finC, eChain, bAnd, bOr, bNot, bBl, bTru, truth, lt_ii, le_ii, gt_ii, ge_ii, neg_i, add_ii, sub_ii, max_ii, min_ii, add_ll, add_tt, sizeLine_eq, gTupD, gsCons, gsNil, gSet, notBor_eq, nbO_val, nbO_no, nbO_own, nbO_oc, ix_l, ix_t, Cell.mu?, Cell.lst?, Mu.lst?, len_l, len_t, eIsi, isi_pr, isiD, tyS, List.lookup, gTup_pr, ix_pr0, ix_pr1, at2_0, at2_1, D.fit, D.pure, pures, D.py, pys, PyData.depth, PyData.depthAll, at3_0, at3_1, at3_2, set3_0, set3_1, set3_2, set2_0, set2_1, eq_ii, ne_ii, eq_ss, ne_ss, eq_bb, ne_bb, int_i, abs_i, Cell.put, putAt, len_scr, isN_int, isN_non, oc_mu, oc_noX, nbO_oc, sTry, trS, exS, Sr.out, dropX, noExn, Cell.noX, eXf, eXis, sRaiseB, eMethN, eMethX, noKey, isIns, eConI, eMkKN, eMkKX, eMkX, eMk, eFld, fldD, sFor, fSeq, seqD, eSFld, sFldS, putK, pow6, pow15, pow18, pow20, pow30, pow31, eOpX, eOpN, gSqD, sParF, sParE, eCallK, sIns, eJs, joinE, FPart.ev, fmtD, eJoin, gPl, gNil, gSeq, gYield, gFor, fMethN, fMethX, onlyX, eMethKX, eMethKN, eCallKPX, eCallKPN, fMethFX, fMethKX, fMethKN, Wd.wish, momD, ansD, numD, ow_Number, tb_own, isK])⟩
theorem c1_ok {a : List Cell} {o : Option D} (hl : a.length = 18) (h4 : a[4]? = some (.val (.lst (Ws.map Wd.wish)))) (h13 : a[13]? = some (.val W.wish)) (hs : Ws.length ≤ 16777216) :
    c_law_1 (a ++ [oc o]) = .ok ((Ws.map fun W' => decide (W' = W)).map D.bl) (a ++ [oc o]) := by
  have x4 : ∀ c, eVar 4 (a ++ [c]) = .ok (.lst (Ws.map Wd.wish)) (a ++ [c]) := fun c => by
    unfold eVar
    rw [List.getElem?_append_left (by omega), h4]
  have x13 : ∀ c, eVar 13 (a ++ [c]) = .ok W.wish (a ++ [c]) := fun c => by
    unfold eVar
    rw [List.getElem?_append_left (by omega), h13]
  have x18 : ∀ d, eVar 18 (a ++ [.val d]) = .ok d (a ++ [.val d]) := fun d => by
    unfold eVar
    rw [List.getElem?_append_right (by omega), hl]; rfl
  have it : fSeq (eVar 4) (a ++ [oc o]) = .ok (Ws.map Wd.wish) (a ++ [oc o]) := by
    unfold fSeq
    rw [x4]; rfl
  have w0 : wipeE (a ++ [oc o]) [18] = a ++ [.no] := by
    have q : (a ++ [oc o]).set 18 .no = a ++ [.no] := by
      rw [List.set_append_right _ _ (by omega), hl]; rfl
    simpa [wipeE] using q
  have nm : noMut (a ++ [oc o]) [18] = true := by
    have q : (a ++ [oc o]).getD 18 .no = oc o := by
      rw [List.getD_eq_getElem?_getD, List.getElem?_append_right (by omega), hl]; rfl
    simp only [noMut, List.all_cons, List.all_nil, Bool.and_true]
    rw [q, oc_mu]; rfl
  unfold c_law_1
  rw [List.map_map]
  refine lc_ok it nm (by simpa using hs) (lcD_all Wd.wish (fun W' => .bl (decide (W' = W))) Ws fun W' _ => ⟨a ++ [.val W'.wish], a ++ [.val W'.wish], ?_, ?_, ?_⟩)
  · rw [w0]
    have q : (a ++ [Cell.no]).set 18 (.val W'.wish) = a ++ [.val W'.wish] := by
      rw [List.set_append_right _ _ (by omega), hl]; rfl
    have nb : notBor (a ++ [Cell.no]) 18 = true := by
      unfold notBor
      rw [List.getElem?_append_right (by omega), hl]; rfl
    unfold gSet
    rw [if_pos nb, q]
  · exact eqx (x18 _) (x13 _) (ans_ww W' W)
  · have g : (a ++ [oc o]).getD 18 .no = oc o := by
      rw [List.getD_eq_getElem?_getD, List.getElem?_append_right (by omega), hl]; rfl
    have s : (a ++ [Cell.val W'.wish]).set 18 (oc o) = a ++ [oc o] := by
      rw [List.set_append_right _ _ (by omega), hl]; rfl
    show List.set (a ++ [Cell.val W'.wish]) 18 ((a ++ [oc o]).getD 18 .no) = a ++ [oc o]
    rw [g]
    exact s
theorem s13 (K : Knows ρ W Ws oe os) (hc : c_law_1 ρ = .ok ((Ws.map fun W' => decide (W' = W)).map D.bl) ρ) (hn : Ws.Nodup) (hm : W ∈ Ws) : t_law_13 ρ = .nx ρ := by
  unfold t_law_13
  have e := eop2_ok (op := neD) (z := .bl false) (ecount_ok (efr_ok hc) (show eC (.bl true) ρ = .ok (.bl true) ρ from rfl) (fit_bls _) (fit_b true)) (show eC (.int 1) ρ = .ok (.int 1) ρ from rfl) (by rw [count_one hn hm]; exact isF_eq (by decide +kernel))
  exact if_noS (orF (notT_ok (isi_w W K.v13)) (orF (bb_ok (eop2_ok (fld_ok K.v13 (f_ends W)) K.v9 (ends_eq W))) (bb_ok e)))
theorem s14 (K : Knows ρ W Ws oe os) : t_law_14 ρ = .nx ρ := by
  unfold t_law_14
  obtain ⟨i1, i2, i3⟩ := isi_3 W K.v13
  have f1 := fl3 i1 i2 i3
  have f2 : fLst [(.ex (eC (.str "moments"))), (.ex (eC (.str "answer"))), (.ex (eC (.str "number")))] ρ = .ok [.str "moments", .str "answer", .str "number"] ρ := fl3 rfl rfl rfl
  have ft : (D.lst [.str "moments", .str "answer", .str "number"]).fit = true := by decide +kernel
  cases W with
  | m t s b e =>
    have f1 : fLst [(.ex (eIsi tb_own ow_Moments (.ex (eVar 13)))), (.ex (eIsi tb_own ow_Answer (.ex (eVar 13)))), (.ex (eIsi tb_own ow_Number (.ex (eVar 13))))] ρ = .ok [.bl true, .bl false, .bl false] ρ := f1
    have v5 : eVar 5 ρ = .ok (.str "moments") ρ := K.v5
    have a1 := eindex_ok (j := 0) (efr_ok f1) (show eC (.bl true) ρ = .ok (.bl true) ρ from rfl) (fit_bls [true, false, false]) (fit_b true) (by decide +kernel)
    have a2 := eindex_ok (j := 0) (efr_ok f2) v5 ft (by decide +kernel) (by decide +kernel)
    exact if_noS (bb_ok (eop2_ok a1 a2 (isF_eq (by decide +kernel))))
  | a t e =>
    have f1 : fLst [(.ex (eIsi tb_own ow_Moments (.ex (eVar 13)))), (.ex (eIsi tb_own ow_Answer (.ex (eVar 13)))), (.ex (eIsi tb_own ow_Number (.ex (eVar 13))))] ρ = .ok [.bl false, .bl true, .bl false] ρ := f1
    have v5 : eVar 5 ρ = .ok (.str "answer") ρ := K.v5
    have a1 := eindex_ok (j := 1) (efr_ok f1) (show eC (.bl true) ρ = .ok (.bl true) ρ from rfl) (fit_bls [false, true, false]) (fit_b true) (by decide +kernel)
    have a2 := eindex_ok (j := 1) (efr_ok f2) v5 ft (by decide +kernel) (by decide +kernel)
    exact if_noS (bb_ok (eop2_ok a1 a2 (isF_eq (by decide +kernel))))
  | n t e =>
    have f1 : fLst [(.ex (eIsi tb_own ow_Moments (.ex (eVar 13)))), (.ex (eIsi tb_own ow_Answer (.ex (eVar 13)))), (.ex (eIsi tb_own ow_Number (.ex (eVar 13))))] ρ = .ok [.bl false, .bl false, .bl true] ρ := f1
    have v5 : eVar 5 ρ = .ok (.str "number") ρ := K.v5
    have a1 := eindex_ok (j := 2) (efr_ok f1) (show eC (.bl true) ρ = .ok (.bl true) ρ from rfl) (fit_bls [false, false, true]) (fit_b true) (by decide +kernel)
    have a2 := eindex_ok (j := 2) (efr_ok f2) v5 ft (by decide +kernel) (by decide +kernel)
    exact if_noS (bb_ok (eop2_ok a1 a2 (isF_eq (by decide +kernel))))
theorem tup3_ne (t : Fin 7) (s : Fin 4) (b : Bool) : neD (.tup [.str (tM t), .str (sM s), .bl b]) (.tup [.str (tM t), .str (sM s), .bl b]) = some (.bl false) :=
  isF_eq ((by decide +kernel : ∀ (t : Fin 7) (s : Fin 4) (b : Bool), isF (neD (.tup [.str (tM t), .str (sM s), .bl b]) (.tup [.str (tM t), .str (sM s), .bl b])) = true) t s b)
theorem tup3 {f g k : EX} {a b c : D} (h1 : f ρ = .ok a ρ) (h2 : g ρ = .ok b ρ) (h3 : k ρ = .ok c ρ) : eTup [.ex f, .ex g, .ex k] ρ = .ok (.tup [a, b, c]) ρ := by
  simp [fnN, fnB, fnBF, sSeq, sRet, sRetF, sRetN, sIf, sSet, sNil, sExpr, sOwn, sPar, sAsg, sMut, sApp, sPut, eVar, eC, eOp, eCall, eAnd, eOr, eNot, eIf, eTup, eFr, fLst, Opd.ev, evs, Arg.dat, dats, vals?, op1, op2, appF, cells, Arg.cell, sls, wb, finC, eChain, bAnd, bOr, bNot, bBl, bTru, truth, lt_ii, le_ii, gt_ii, ge_ii, neg_i, add_ii, sub_ii, max_ii, min_ii, add_ll, add_tt, sizeLine_eq, gTupD, gsCons, gsNil, gSet, notBor_eq, nbO_val, nbO_no, nbO_own, nbO_oc, ix_l, ix_t, Cell.mu?, Cell.lst?, Mu.lst?, len_l, len_t, eIsi, isi_pr, isiD, tyS, List.lookup, gTup_pr, ix_pr0, ix_pr1, at2_0, at2_1, D.fit, D.pure, pures, D.py, pys, PyData.depth, PyData.depthAll, at3_0, at3_1, at3_2, set3_0, set3_1, set3_2, set2_0, set2_1, eq_ii, ne_ii, eq_ss, ne_ss, eq_bb, ne_bb, int_i, abs_i, Cell.put, putAt, len_scr, isN_int, isN_non, oc_mu, oc_noX, nbO_oc, sTry, trS, exS, Sr.out, dropX, noExn, Cell.noX, eXf, eXis, sRaiseB, eMethN, eMethX, noKey, isIns, eConI, eMkKN, eMkKX, eMkX, eMk, eFld, fldD, sFor, fSeq, seqD, eSFld, sFldS, putK, pow6, pow15, pow18, pow20, pow30, pow31, eOpX, eOpN, gSqD, sParF, sParE, eCallK, sIns, eJs, joinE, FPart.ev, fmtD, eJoin, gPl, gNil, gSeq, gYield, gFor, fMethN, fMethX, onlyX, eMethKX, eMethKN, eCallKPX, eCallKPN, fMethFX, fMethKX, fMethKN, h1, h2, h3]
theorem s15 (K : Knows ρ W Ws oe os) : t_law_15 ρ = .nx ρ := by
  unfold t_law_15
  have e0 := bb_ok (eop2_ok K.v5 (show eC (.str "moments") ρ = .ok (.str "moments") ρ from rfl) (kd_m W))
  cases W with
  | m t s b e => exact if_noS (andT e0 (bb_ok (eop2_ok (tup3 (fld_ok K.v13 (f_which t s b e)) (fld_ok K.v13 (f_form t s b e)) (fld_ok K.v13 (f_within t s b e))) (tup3 K.v6 K.v7 K.v8) (tup3_ne t s b))))
  | a t e => exact if_noS (andF e0)
  | n t e => exact if_noS (andF e0)
theorem s16 (K : Knows ρ W Ws oe os) : t_law_16 ρ = .nx ρ := by
  unfold t_law_16
  have e0 := bb_ok (eop2_ok K.v5 (show eC (.str "moments") ρ = .ok (.str "moments") ρ from rfl) (kd_nm W))
  cases W with
  | m t s b e => exact if_noS (andF e0)
  | a t e => exact if_noS (andT e0 (bb_ok (eop2_ok (fld_ok K.v13 (f_whatA t e)) K.v6 (tm_ne (.a t e)))))
  | n t e => exact if_noS (andT e0 (bb_ok (eop2_ok (fld_ok K.v13 (f_whatN t e)) K.v6 (tm_ne (.n t e)))))
def u5 : Wd → Bool
  | .m .. => false
  | W => W.uw
theorem in5 (W : Wd) : inD W.tm (.lst [.str "busy", .str "covered", .str "left", .str "within", .str "touched"]) = some (.bl (u5 W)) := by
  cases W with
  | m t s b e => exact isB_eq ((by decide +kernel : ∀ t : Fin 7, isB false (inD (.str (tM t)) (.lst [.str "busy", .str "covered", .str "left", .str "within", .str "touched"])) = true) t)
  | a t e => exact isB_eq ((by decide +kernel : ∀ t : Fin 3, isB (decide (t ≠ 2)) (inD (.str (tA t)) (.lst [.str "busy", .str "covered", .str "left", .str "within", .str "touched"])) = true) t)
  | n t e => exact isB_eq ((by decide +kernel : ∀ t : Fin 6, isB (decide (t = 2 ∨ t = 3 ∨ t = 4)) (inD (.str (tN t)) (.lst [.str "busy", .str "covered", .str "left", .str "within", .str "touched"])) = true) t)
theorem in3 (W : Wd) : inD W.tm (.lst [.str "covered", .str "clash", .str "pieces"]) = some (.bl W.wb) := by
  cases W with
  | m t s b e => exact isB_eq ((by decide +kernel : ∀ t : Fin 7, isB false (inD (.str (tM t)) (.lst [.str "covered", .str "clash", .str "pieces"])) = true) t)
  | a t e => exact isB_eq ((by decide +kernel : ∀ t : Fin 3, isB (decide (t ≠ 0)) (inD (.str (tA t)) (.lst [.str "covered", .str "clash", .str "pieces"])) = true) t)
  | n t e => exact isB_eq ((by decide +kernel : ∀ t : Fin 6, isB (decide (t = 5)) (inD (.str (tN t)) (.lst [.str "covered", .str "clash", .str "pieces"])) = true) t)
theorem tm_in (W : Wd) : eqD W.tm (.str "inside") = some (.bl W.ins) := by
  cases W with
  | m t s b e => exact tM_eq t 6
  | a t e => exact isB_eq ((by decide +kernel : ∀ t : Fin 3, isB false (eqD (.str (tA t)) (.str "inside")) = true) t)
  | n t e => exact isB_eq ((by decide +kernel : ∀ t : Fin 6, isB false (eqD (.str (tN t)) (.str "inside")) = true) t)
theorem tm_nin (W : Wd) : neD W.tm (.str "inside") = some (.bl (!W.ins)) := by
  cases W with
  | m t s b e => exact isB_eq ((by decide +kernel : ∀ t : Fin 7, isB (!decide (t = 6)) (neD (.str (tM t)) (.str "inside")) = true) t)
  | a t e => exact isB_eq ((by decide +kernel : ∀ t : Fin 3, isB true (neD (.str (tA t)) (.str "inside")) = true) t)
  | n t e => exact isB_eq ((by decide +kernel : ∀ t : Fin 6, isB true (neD (.str (tN t)) (.str "inside")) = true) t)
theorem s17 (K : Knows ρ W Ws oe os) (n : nbO ρ[14]? = true) : t_law_17 ρ = .nx (ρ.set 14 (.val (.bl (u5 W)))) := by
  unfold t_law_17
  have e : fLst [(.ex (eC (.str "busy"))), (.ex (eC (.str "covered"))), (.ex (eC (.str "left"))), (.ex (eC (.str "within"))), (.ex (eC (.str "touched")))] ρ = .ok [.str "busy", .str "covered", .str "left", .str "within", .str "touched"] ρ := by simp [fnN, fnB, fnBF, sSeq, sRet, sRetF, sRetN, sIf, sSet, sNil, sExpr, sOwn, sPar, sAsg, sMut, sApp, sPut, eVar, eC, eOp, eCall, eAnd, eOr, eNot, eIf, eTup, eFr, fLst, Opd.ev, evs, Arg.dat, dats, vals?, op1, op2, appF, cells, Arg.cell, sls, wb, finC, eChain, bAnd, bOr, bNot, bBl, bTru, truth, lt_ii, le_ii, gt_ii, ge_ii, neg_i, add_ii, sub_ii, max_ii, min_ii, add_ll, add_tt, sizeLine_eq, gTupD, gsCons, gsNil, gSet, notBor_eq, nbO_val, nbO_no, nbO_own, nbO_oc, ix_l, ix_t, Cell.mu?, Cell.lst?, Mu.lst?, len_l, len_t, eIsi, isi_pr, isiD, tyS, List.lookup, gTup_pr, ix_pr0, ix_pr1, at2_0, at2_1, D.fit, D.pure, pures, D.py, pys, PyData.depth, PyData.depthAll, at3_0, at3_1, at3_2, set3_0, set3_1, set3_2, set2_0, set2_1, eq_ii, ne_ii, eq_ss, ne_ss, eq_bb, ne_bb, int_i, abs_i, Cell.put, putAt, len_scr, isN_int, isN_non, oc_mu, oc_noX, nbO_oc, sTry, trS, exS, Sr.out, dropX, noExn, Cell.noX, eXf, eXis, sRaiseB, eMethN, eMethX, noKey, isIns, eConI, eMkKN, eMkKX, eMkX, eMk, eFld, fldD, sFor, fSeq, seqD, eSFld, sFldS, putK, pow6, pow15, pow18, pow20, pow30, pow31, eOpX, eOpN, gSqD, sParF, sParE, eCallK, sIns, eJs, joinE, FPart.ev, fmtD, eJoin, gPl, gNil, gSeq, gYield, gFor, fMethN, fMethX, onlyX, eMethKX, eMethKN, eCallKPX, eCallKPN, fMethFX, fMethKX, fMethKN, fLst]
  exact set_ok (eop2_ok K.v6 (efr_ok e) (in5 W)) n
theorem s18 (K : Knows ρ W Ws oe os) (n : nbO ρ[14]? = true) (h : ρ[14]? = some (.val (.bl (u5 W)))) : t_law_18 ρ = .nx (ρ.set 14 (.val (.bl W.uw))) := by
  unfold t_law_18
  have e0 := bb_ok (eop2_ok K.v5 (show eC (.str "moments") ρ = .ok (.str "moments") ρ from rfl) (kd_m W))
  have same : W.uw = u5 W → ρ.set 14 (.val (.bl W.uw)) = ρ := fun q => by
    rw [q]
    refine List.ext_getElem? fun i => ?_
    by_cases c : i = 14
    · subst c
      have := (List.getElem?_eq_some_iff.mp h).1
      rw [List.getElem?_set_self this, h]
    · rw [List.getElem?_set_ne (Ne.symm c)]
  cases W with
  | m t s b e =>
    refine (if_yesS e0).trans (set_ok ?_ n)
    have e1 := K.v8
    have e2 := eop2_ok K.v7 (show eC (.str "cut") ρ = .ok (.str "cut") ρ from rfl) (sM_eq s 3)
    show eOr _ _ ρ = _
    cases b
    · unfold eOr; rw [e1]; simpa [truth, Wd.uw, Wd.ib] using e2
    · unfold eOr; rw [e1]; simp [truth, Wd.uw, Wd.ib]
  | a t e =>
    refine (if_noS e0).trans ?_
    rw [same rfl]; rfl
  | n t e =>
    refine (if_noS e0).trans ?_
    rw [same rfl]; rfl
theorem s19 (K : Knows ρ W Ws oe os) (n : nbO ρ[15]? = true) : t_law_19 ρ = .nx (ρ.set 15 (.val (.bl W.wb))) := by
  unfold t_law_19
  exact set_ok (eop2_ok K.v6 (efr_ok (fl3 rfl rfl rfl)) (in3 W)) n
theorem s20 (K : Knows ρ W Ws oe os) (h14 : eVar 14 ρ = .ok (.bl W.uw) ρ) (h15 : eVar 15 ρ = .ok (.bl W.wb) ρ) : t_law_20 ρ = .nx ρ := by
  unfold t_law_20
  have e : fLst [(.ex (eC (.bl true))), (.ex (eC (.bl false)))] ρ = .ok [.bl true, .bl false] ρ := by simp [fnN, fnB, fnBF, sSeq, sRet, sRetF, sRetN, sIf, sSet, sNil, sExpr, sOwn, sPar, sAsg, sMut, sApp, sPut, eVar, eC, eOp, eCall, eAnd, eOr, eNot, eIf, eTup, eFr, fLst, Opd.ev, evs, Arg.dat, dats, vals?, op1, op2, appF, cells, Arg.cell, sls, wb, finC, eChain, bAnd, bOr, bNot, bBl, bTru, truth, lt_ii, le_ii, gt_ii, ge_ii, neg_i, add_ii, sub_ii, max_ii, min_ii, add_ll, add_tt, sizeLine_eq, gTupD, gsCons, gsNil, gSet, notBor_eq, nbO_val, nbO_no, nbO_own, nbO_oc, ix_l, ix_t, Cell.mu?, Cell.lst?, Mu.lst?, len_l, len_t, eIsi, isi_pr, isiD, tyS, List.lookup, gTup_pr, ix_pr0, ix_pr1, at2_0, at2_1, D.fit, D.pure, pures, D.py, pys, PyData.depth, PyData.depthAll, at3_0, at3_1, at3_2, set3_0, set3_1, set3_2, set2_0, set2_1, eq_ii, ne_ii, eq_ss, ne_ss, eq_bb, ne_bb, int_i, abs_i, Cell.put, putAt, len_scr, isN_int, isN_non, oc_mu, oc_noX, nbO_oc, sTry, trS, exS, Sr.out, dropX, noExn, Cell.noX, eXf, eXis, sRaiseB, eMethN, eMethX, noKey, isIns, eConI, eMkKN, eMkKX, eMkX, eMk, eFld, fldD, sFor, fSeq, seqD, eSFld, sFldS, putK, pow6, pow15, pow18, pow20, pow30, pow31, eOpX, eOpN, gSqD, sParF, sParE, eCallK, sIns, eJs, joinE, FPart.ev, fmtD, eJoin, gPl, gNil, gSeq, gYield, gFor, fMethN, fMethX, onlyX, eMethKX, eMethKN, eCallKPX, eCallKPN, fMethFX, fMethKX, fMethKN, fLst]
  have k : notInD (.bl W.uw) (.lst [.bl true, .bl false]) = some (.bl false) := isF_eq ((by decide +kernel : ∀ b : Bool, isF (notInD (.bl b) (.lst [.bl true, .bl false])) = true) _)
  exact if_noS (orF (bb_ok (eop2_ok (uwx K.v13) (efr_ok e) k)) (orF (bb_ok (eop2_ok (uwx K.v13) h14 (bl_ne _))) (bb_ok (eop2_ok (wbx K.v13) h15 (bl_ne _)))))
theorem s21 (K : Knows ρ W Ws oe os) (he : inD oe (.tup EvT) = some (.bl true)) (hs : inD os (.tup EvT) = some (.bl false)) : t_law_21 ρ = .nx ρ := by
  unfold t_law_21
  have a := eop2_ok K.v6 (show eC (.str "inside") ρ = .ok (.str "inside") ρ from rfl) (tm_in W)
  have b := eop2_ok K.v6 (show eC (.str "inside") ρ = .ok (.str "inside") ρ from rfl) (tm_nin W)
  exact if_noS (orF (bb_ok (eop2_ok (fitsx K.v13 he K.v10) a (bl_ne _))) (bb_ok (eop2_ok (fitsx K.v13 hs K.v11) b (bl_ne _))))
theorem s22 (K : Knows ρ W Ws oe os) (n : nbO ρ[16]? = true) : t_law_22 ρ = .nx (ρ.set 16 (.val (.str (wE (!W.en))))) := by
  unfold t_law_22
  have k : eqD W.wd (.str "half") = some (.bl (!W.en)) := isB_eq ((by decide +kernel : ∀ e : Bool, isB (!e) (eqD (.str (wE e)) (.str "half")) = true) _)
  have e0 := bb_ok (eop2_ok K.v9 (show eC (.str "half") ρ = .ok (.str "half") ρ from rfl) k)
  refine set_ok (ρ1 := ρ) ?_ n
  cases h : W.en
  · rw [h] at e0; exact eif_t e0 rfl
  · rw [h] at e0; exact eif_f e0 rfl
theorem s23 (K : Knows ρ W Ws oe os) (h16 : eVar 16 ρ = .ok (.str (wE (!W.en))) ρ) (n : nbO ρ[17]? = true) : t_law_23 ρ = .nx (ρ.set 17 (.val (W.by_ (!W.en)).wish)) := by
  unfold t_law_23
  exact set_ok (byx K.v13 _ h16) n
theorem by_kd (W : Wd) (e : Bool) : (W.by_ e).kd = W.kd ∧ (W.by_ e).tm = W.tm ∧ (W.by_ e).sh = W.sh ∧ (W.by_ e).ib = W.ib ∧ (W.by_ e).wd = .str (wE e) := by cases W <;> exact ⟨rfl, rfl, rfl, rfl, rfl⟩
theorem by_en (W : Wd) : W.by_ W.en = W := by cases W <;> rfl
theorem by_by (W : Wd) (e e' : Bool) : (W.by_ e).by_ e' = W.by_ e' := by cases W <;> rfl
theorem by_no (W : Wd) : W.by_ (!W.en) ≠ W := by
  cases W with
  | m t s b e => cases e <;> (intro h; injection h with h1 h2 h3 h4; cases h4)
  | a t e => cases e <;> (intro h; injection h with h1 h2; cases h2)
  | n t e => cases e <;> (intro h; injection h with h1 h2; cases h2)
theorem lwx {f5 f6 f7 f8 f9 : EX} {V : Wd} (h5 : f5 ρ = .ok V.kd ρ) (h6 : f6 ρ = .ok V.tm ρ) (h7 : f7 ρ = .ok V.sh ρ) (h8 : f8 ρ = .ok V.ib ρ) (h9 : f9 ρ = .ok V.wd ρ) : eCall 5 fn_l_wish [] [.ex f5, .ex f6, .ex f7, .ex f8, .ex f9] ρ = .ok V.wish ρ :=
  cl5 h5 h6 h7 h8 h9 (lw_ok V)
theorem s24 (K : Knows ρ W Ws oe os) (h16 : eVar 16 ρ = .ok (.str (wE (!W.en))) ρ) (h17 : eVar 17 ρ = .ok (W.by_ (!W.en)).wish ρ) : t_law_24 ρ = .nx ρ := by
  unfold t_law_24
  obtain ⟨k1, k2, k3, k4, k5⟩ := by_kd W (!W.en)
  have w := lwx (f5 := eVar 5) (f6 := eVar 6) (f7 := eVar 7) (f8 := eVar 8) (f9 := eVar 16) (V := W.by_ (!W.en)) (by rw [k1]; exact K.v5) (by rw [k2]; exact K.v6) (by rw [k3]; exact K.v7) (by rw [k4]; exact K.v8) (by rw [k5]; exact h16)
  have a1 := bnex h17 w (ans_ww _ _)
  have a2 := beqx h17 K.v13 (ans_ww (W.by_ (!W.en)) W)
  have a3 := bnex (byx h17 W.en K.v9) K.v13 (ans_ww _ _)
  rw [decide_eq_true rfl] at a1
  rw [decide_eq_false (by_no W)] at a2
  rw [by_by, by_en, decide_eq_true rfl] at a3
  exact if_noS (orF a1 (orF a2 a3))
theorem str_ans (W : Wd) : EqAns W W.tm false := by
  cases W <;> exact ans_str _ _
theorem s25 (K : Knows ρ W Ws oe os) : t_law_25 ρ = .nx ρ := by
  unfold t_law_25
  have a1 := bnex (byx K.v13 W.en K.v9) K.v13 (ans_ww _ _)
  rw [by_en, decide_eq_true rfl] at a1
  exact if_noS (orF a1 (orF (bb_ok (eop2_ok (fld_ok K.v13 (f_ends W)) K.v9 (ends_eq W))) (orF (beqx K.v13 K.v6 (str_ans W)) (beqx K.v13 (show eC .non ρ = .ok .non ρ from rfl) (ans_non W)))))
theorem s26 (K : Knows ρ W Ws oe os) : t_law_26 ρ = .nx ρ := by
  unfold t_law_26
  have a1 := bnex K.v13 (lwx K.v5 K.v6 K.v7 K.v8 K.v9) (ans_ww W W)
  rw [decide_eq_true rfl] at a1
  exact if_noS a1
theorem s27 (K : Knows ρ W Ws oe os) : t_law_27 ρ = .nx ρ := by
  unfold t_law_27
  have e0 := bb_ok (eop2_ok K.v5 (show eC (.str "moments") ρ = .ok (.str "moments") ρ from rfl) (kd_m W))
  cases W with
  | m t s b e =>
    have nb : eNot (.ex (eVar 8)) ρ = .ok (.bl (!b)) ρ := enot_ok K.v8
    have a1 := beqx K.v13 (lwx (V := .m t s (!b) e) K.v5 K.v6 K.v7 nb K.v9) (ans_ww (.m t s b e) (.m t s (!b) e))
    rw [decide_eq_false (by cases b <;> (intro h; injection h with h1 h2 h3 h4; cases h3))] at a1
    exact if_noS (andT e0 a1)
  | a t e => exact if_noS (andF e0)
  | n t e => exact if_noS (andF e0)
/-! _law_parts_forms -/
def PF (W : Wd) (o : Option D) : PEnv := [.val W.wish, .val W.tm, .val W.sh, .val W.ib, .val W.wd, oc o]
theorem pf_ok (t : Fin 7) (s : Fin 4) (b e : Bool) : fn_l_parts_forms [.val (Wd.m t s b e).wish, .val (Wd.m t s b e).tm, .val (Wd.m t s b e).sh, .val (Wd.m t s b e).ib, .val (Wd.m t s b e).wd] = .ok (.bl true) [.val (Wd.m t s b e).wish, .val (Wd.m t s b e).tm, .val (Wd.m t s b e).sh, .val (Wd.m t s b e).ib, .val (Wd.m t s b e).wd] := by
  obtain ⟨ρ', lp, o, rfl⟩ := loop_c (g := gSet 5) (body := b_l_parts_forms_1) (fun d => ∃ s' : Fin 4, d = .str (sM s')) (fun ρ => ∃ o, ρ = PF (.m t s b e) o) (by
    rintro d ρ ⟨s', rfl⟩ ⟨o, rfl⟩
    refine ⟨PF (.m t s b e) (some (.str (sM s'))), PF (.m t s b e) (some (.str (sM s'))), by simp [fnN, fnB, fnBF, sSeq, sRet, sRetF, sRetN, sIf, sSet, sNil, sExpr, sOwn, sPar, sAsg, sMut, sApp, sPut, eVar, eC, eOp, eCall, eAnd, eOr, eNot, eIf, eTup, eFr, fLst, Opd.ev, evs, Arg.dat, dats, vals?, op1, op2, appF, cells, Arg.cell, sls, wb, finC, eChain, bAnd, bOr, bNot, bBl, bTru, truth, lt_ii, le_ii, gt_ii, ge_ii, neg_i, add_ii, sub_ii, max_ii, min_ii, add_ll, add_tt, sizeLine_eq, gTupD, gsCons, gsNil, gSet, notBor_eq, nbO_val, nbO_no, nbO_own, nbO_oc, ix_l, ix_t, Cell.mu?, Cell.lst?, Mu.lst?, len_l, len_t, eIsi, isi_pr, isiD, tyS, List.lookup, gTup_pr, ix_pr0, ix_pr1, at2_0, at2_1, D.fit, D.pure, pures, D.py, pys, PyData.depth, PyData.depthAll, at3_0, at3_1, at3_2, set3_0, set3_1, set3_2, set2_0, set2_1, eq_ii, ne_ii, eq_ss, ne_ss, eq_bb, ne_bb, int_i, abs_i, Cell.put, putAt, len_scr, isN_int, isN_non, oc_mu, oc_noX, nbO_oc, sTry, trS, exS, Sr.out, dropX, noExn, Cell.noX, eXf, eXis, sRaiseB, eMethN, eMethX, noKey, isIns, eConI, eMkKN, eMkKX, eMkX, eMk, eFld, fldD, sFor, fSeq, seqD, eSFld, sFldS, putK, pow6, pow15, pow18, pow20, pow30, pow31, eOpX, eOpN, gSqD, sParF, sParE, eCallK, sIns, eJs, joinE, FPart.ev, fmtD, eJoin, gPl, gNil, gSeq, gYield, gFor, fMethN, fMethX, onlyX, eMethKX, eMethKN, eCallKPX, eCallKPN, fMethFX, fMethKX, fMethKN, PF, oc_some], ?_, _, rfl⟩
    show t_l_parts_forms_1 _ = _
    unfold t_l_parts_forms_1
    have v0 : eVar 0 (PF (.m t s b e) (some (.str (sM s')))) = .ok (Wd.m t s b e).wish (PF (.m t s b e) (some (.str (sM s')))) := rfl
    have v5 : eVar 5 (PF (.m t s b e) (some (.str (sM s')))) = .ok (.str (sM s')) (PF (.m t s b e) (some (.str (sM s')))) := rfl
    have v2 : eVar 2 (PF (.m t s b e) (some (.str (sM s')))) = .ok (.str (sM s)) (PF (.m t s b e) (some (.str (sM s')))) := rfl
    have a := eqx v0 (lwx (V := .m t s' b e) (f5 := eC (.str "moments")) (f6 := eVar 1) (f7 := eVar 5) (f8 := eVar 3) (f9 := eVar 4) rfl rfl v5 rfl rfl) (ans_ww (.m t s b e) (.m t s' b e))
    have c := eop2_ok v5 v2 (sM_eq s' s)
    have w : decide (Wd.m t s b e = Wd.m t s' b e) = decide (s' = s) := by
      rw [Bool.eq_iff_iff]; simp; exact eq_comm
    rw [w] at a
    exact if_noS (bb_ok (eop2_ok a c (bl_ne _)))) ([.str "one", .str "full", .str "any", .str "cut"]) (PF (.m t s b e) none) (by
    intro d hd
    simp only [List.mem_cons, List.not_mem_nil, or_false] at hd
    rcases hd with rfl | rfl | rfl | rfl
    · exact ⟨0, rfl⟩
    · exact ⟨1, rfl⟩
    · exact ⟨2, rfl⟩
    · exact ⟨3, rfl⟩) ⟨none, rfl⟩
  have it : fSeq (eFr (fLst [(.ex (eC (.str "one"))), (.ex (eC (.str "full"))), (.ex (eC (.str "any"))), (.ex (eC (.str "cut")))])) (PF (.m t s b e) none) = .ok [.str "one", .str "full", .str "any", .str "cut"] (PF (.m t s b e) none) := by
    generalize PF (.m t s b e) none = ρ
    simp [fnN, fnB, fnBF, sSeq, sRet, sRetF, sRetN, sIf, sSet, sNil, sExpr, sOwn, sPar, sAsg, sMut, sApp, sPut, eVar, eC, eOp, eCall, eAnd, eOr, eNot, eIf, eTup, eFr, fLst, Opd.ev, evs, Arg.dat, dats, vals?, op1, op2, appF, cells, Arg.cell, sls, wb, finC, eChain, bAnd, bOr, bNot, bBl, bTru, truth, lt_ii, le_ii, gt_ii, ge_ii, neg_i, add_ii, sub_ii, max_ii, min_ii, add_ll, add_tt, sizeLine_eq, gTupD, gsCons, gsNil, gSet, notBor_eq, nbO_val, nbO_no, nbO_own, nbO_oc, ix_l, ix_t, Cell.mu?, Cell.lst?, Mu.lst?, len_l, len_t, eIsi, isi_pr, isiD, tyS, List.lookup, gTup_pr, ix_pr0, ix_pr1, at2_0, at2_1, D.fit, D.pure, pures, D.py, pys, PyData.depth, PyData.depthAll, at3_0, at3_1, at3_2, set3_0, set3_1, set3_2, set2_0, set2_1, eq_ii, ne_ii, eq_ss, ne_ss, eq_bb, ne_bb, int_i, abs_i, Cell.put, putAt, len_scr, isN_int, isN_non, oc_mu, oc_noX, nbO_oc, sTry, trS, exS, Sr.out, dropX, noExn, Cell.noX, eXf, eXis, sRaiseB, eMethN, eMethX, noKey, isIns, eConI, eMkKN, eMkKX, eMkX, eMk, eFld, fldD, sFor, fSeq, seqD, eSFld, sFldS, putK, pow6, pow15, pow18, pow20, pow30, pow31, eOpX, eOpN, gSqD, sParF, sParE, eCallK, sIns, eJs, joinE, FPart.ev, fmtD, eJoin, gPl, gNil, gSeq, gYield, gFor, fMethN, fMethX, onlyX, eMethKX, eMethKN, eCallKPX, eCallKPN, fMethFX, fMethKX, fMethKN, fLst]
  have s2 : t_l_parts_forms_2 (PF (.m t s b e) none) = .nx (PF (.m t s b e) o) := for_ok it lp
  unfold fn_l_parts_forms
  refine fn_rt (ρ := PF (.m t s b e) o) ?_ (by cases o <;> rfl)
  show sem_l_parts_forms (PF (.m t s b e) none) = _
  unfold sem_l_parts_forms
  rw [seq_nx s2]; rfl
theorem s28 (K : Knows ρ W Ws oe os) : t_law_28 ρ = .nx ρ := by
  unfold t_law_28
  have e0 := bb_ok (eop2_ok K.v5 (show eC (.str "moments") ρ = .ok (.str "moments") ρ from rfl) (kd_m W))
  cases W with
  | m t s b e => exact if_noS (andT e0 (notT_ok (cl5 K.v13 K.v6 K.v7 K.v8 K.v9 (pf_ok t s b e))))
  | a t e => exact if_noS (andF e0)
  | n t e => exact if_noS (andF e0)
end
end Spk
namespace Spk
open PySem PySem.Spec PyProof.Rows L2
def NB (c : Cell) : Prop := nbO (some c) = true
theorem slx {fn : List Cell → Rs D} {i : Nat} {g : EX} {ρ : PEnv} {y d : D} {m m' : Mu} (h2 : ρ[i]? = some (.own m)) (hg : g ρ = .ok y ρ) (h : fn [.bor m, .val y] = .ok d [.bor m', .val y]) : eCall 2 fn [] [.sl i, .ex g] ρ = .ok d (ρ.set i (.own m')) := by
  have e : evs [.sl i, .ex g] ρ = .ok [.sl i, .val y] ρ := by simp [evs, Opd.ev, hg, h2, Cell.mu?]
  unfold eCall
  rw [e, Rs.bind_ok]
  have c : cells ρ [.sl i, .val y] = some [.bor m, .val y] := by simp [cells, Arg.cell, h2, Cell.mu?]
  have w : wb [.sl i, .val y] [.bor m', .val y] ρ = some (ρ.set i (.own m')) := by simp [wb, h2, Cell.put]
  unfold appF
  rw [if_pos ⟨rfl, by simp [sls]⟩]
  simp only [c, List.map_nil, List.append_nil, h, w]
  rfl
theorem own_set {i : Nat} {f : PEnv → Rs (List D)} {ρ ρ1 : PEnv} {ds : List D} (h : f ρ = .ok ds ρ1) (n : nbO ρ1[i]? = true) : sOwn i f ρ = .nx (ρ1.set i (.own (.lst ds))) := by
  unfold sOwn
  rw [h]
  show (if _ then _ else _) = _
  rw [if_pos (by rw [notBor_eq]; exact n)]
theorem sl_at {ρ : PEnv} {i : Nat} {f : SX} {xs : List D} (hc : ρ[i]? = some (.own (.lst xs))) : sMut i f ρ = f ρ := by
  unfold sMut
  rw [if_pos (by rw [hc]; rfl)]
theorem app_set {i : Nat} {f : EX} {ρ ρ1 : PEnv} {d : D} {xs : List D} (h0 : ρ[i]? = some (.own (.lst xs))) (h : f ρ = .ok d ρ1) (hc : ρ1[i]? = some (.own (.lst xs))) (hl : xs.length ≤ 1000) : sMut i (sApp i f) ρ = .nx (ρ1.set i (.own (.lst (xs ++ [d])))) := by
  rw [sl_at h0]
  unfold sApp putAt appG
  rw [h]
  simp only [Sr.of, hc, Option.bind_some, Cell.lst?, Cell.mu?, Mu.lst?, sizeLine_eq, if_pos (show xs.length < 16777216 by omega), Option.map_some, Cell.put]
theorem par2 {i j : Nat} {f g : EX} {ρ ρ1 ρ2 : PEnv} {a b : D} (h1 : f ρ = .ok a ρ1) (h2 : g ρ1 = .ok b ρ2) (n1 : nbO ρ2[i]? = true) (n2 : nbO ρ2[j]? = true) : sPar i j [.ex f, .ex g] ρ = .nx ((ρ2.set i (.val a)).set j (.val b)) := by
  have e : evs [.ex f, .ex g] ρ = .ok [.val a, .val b] ρ2 := by simp [evs, Opd.ev, h1, h2]
  unfold sPar
  rw [e]
  show (if _ then _ else _) = _
  rw [if_pos ⟨by rw [notBor_eq]; exact n1, by rw [notBor_eq]; exact n2⟩]
section
variable {ns : List Int} {i : Nat} {c2 c3 c4 c5 c6 c7 c8 c9 c10 c11 c12 c13 c14 c15 c16 c17 c18 : Cell} {m : Mu} {X : List Wd} {W W0 : Wd}
def LE (ns : List Int) (i : Nat) (c2 c3 c4 c5 c6 c7 c8 c9 c10 c11 c12 c13 c14 c15 c16 c17 c18 : Cell) : PEnv := [.val (.scr ns), .val (.int i), c2, c3, c4, c5, c6, c7, c8, c9, c10, c11, c12, c13, c14, c15, c16, c17, c18]
def Wd.row (W : Wd) : D := .tup [W.kd, W.tm, W.sh, W.ib, W.wd]
def Wd.skel : Wd → Wd
  | .m t _ _ _ => .m t 0 false false
  | .a t _ => .a t false
  | .n t _ => .n t false
theorem shape_of {d : D} (h : d ∈ [D.str "one", .str "full", .str "any", .str "cut"]) : ∃ s : Fin 4, d = .str (sM s) := by
  simp only [List.mem_cons, List.not_mem_nil, or_false] at h
  rcases h with rfl | rfl | rfl | rfl
  · exact ⟨0, rfl⟩
  · exact ⟨1, rfl⟩
  · exact ⟨2, rfl⟩
  · exact ⟨3, rfl⟩
theorem word_of {d : D} (h : d ∈ [D.str "half", .str "shut"]) : ∃ e : Bool, d = .str (wE e) := by
  simp only [List.mem_cons, List.not_mem_nil, or_false] at h
  rcases h with rfl | rfl
  · exact ⟨false, rfl⟩
  · exact ⟨true, rfl⟩
theorem a3 (b : Bg m) (n7 : NB c7) (n8 : NB c8) : ∃ (s : Fin 4) (x : Bool) (m' : Mu), t_law_3 (LE ns i (.own m) c3 c4 c5 c6 c7 c8 c9 c10 c11 c12 c13 c14 c15 c16 c17 c18) = .nx (LE ns i (.own m') c3 c4 c5 c6 (.val (.str (sM s))) (.val (.bl x)) c9 c10 c11 c12 c13 c14 c15 c16 c17 c18) ∧ Bg m' := by
  obtain ⟨d, m1, hd, e1, b1⟩ := of_ok (ds := [D.str "one", .str "full", .str "any", .str "cut"]) b (by decide) (by decide)
  obtain ⟨s, rfl⟩ := shape_of hd
  obtain ⟨r, m2, e2, r0, r1, b2⟩ := take_ok (k := 2) b1 (by decide) (by decide)
  have l : eFr (fLst [(.ex (eC (.str "one"))), (.ex (eC (.str "full"))), (.ex (eC (.str "any"))), (.ex (eC (.str "cut")))]) (LE ns i (.own m) c3 c4 c5 c6 c7 c8 c9 c10 c11 c12 c13 c14 c15 c16 c17 c18) = .ok (.lst [.str "one", .str "full", .str "any", .str "cut"]) (LE ns i (.own m) c3 c4 c5 c6 c7 c8 c9 c10 c11 c12 c13 c14 c15 c16 c17 c18) := by
    generalize LE ns i (.own m) c3 c4 c5 c6 c7 c8 c9 c10 c11 c12 c13 c14 c15 c16 c17 c18 = ρ
    simp [fnN, fnB, fnBF, sSeq, sRet, sRetF, sRetN, sIf, sSet, sNil, sExpr, sOwn, sPar, sAsg, sMut, sApp, sPut, eVar, eC, eOp, eCall, eAnd, eOr, eNot, eIf, eTup, eFr, fLst, Opd.ev, evs, Arg.dat, dats, vals?, op1, op2, appF, cells, Arg.cell, sls, wb, finC, eChain, bAnd, bOr, bNot, bBl, bTru, truth, lt_ii, le_ii, gt_ii, ge_ii, neg_i, add_ii, sub_ii, max_ii, min_ii, add_ll, add_tt, sizeLine_eq, gTupD, gsCons, gsNil, gSet, notBor_eq, nbO_val, nbO_no, nbO_own, nbO_oc, ix_l, ix_t, Cell.mu?, Cell.lst?, Mu.lst?, len_l, len_t, eIsi, isi_pr, isiD, tyS, List.lookup, gTup_pr, ix_pr0, ix_pr1, at2_0, at2_1, D.fit, D.pure, pures, D.py, pys, PyData.depth, PyData.depthAll, at3_0, at3_1, at3_2, set3_0, set3_1, set3_2, set2_0, set2_1, eq_ii, ne_ii, eq_ss, ne_ss, eq_bb, ne_bb, int_i, abs_i, Cell.put, putAt, len_scr, isN_int, isN_non, oc_mu, oc_noX, nbO_oc, sTry, trS, exS, Sr.out, dropX, noExn, Cell.noX, eXf, eXis, sRaiseB, eMethN, eMethX, noKey, isIns, eConI, eMkKN, eMkKX, eMkX, eMk, eFld, fldD, sFor, fSeq, seqD, eSFld, sFldS, putK, pow6, pow15, pow18, pow20, pow30, pow31, eOpX, eOpN, gSqD, sParF, sParE, eCallK, sIns, eJs, joinE, FPart.ev, fmtD, eJoin, gPl, gNil, gSeq, gYield, gFor, fMethN, fMethX, onlyX, eMethKX, eMethKN, eCallKPX, eCallKPN, fMethFX, fMethKX, fMethKN, fLst]
  have q1 := slx (i := 2) (fn := fn_l_of) rfl l e1
  have q2 := slx (i := 2) (fn := fn_l_take) (g := eC (.int 2)) (ρ := LE ns i (.own m1) c3 c4 c5 c6 c7 c8 c9 c10 c11 c12 c13 c14 c15 c16 c17 c18) (y := .int 2) rfl rfl e2
  have q3 := eop2_ok (op := eqD) (z := .bl (decide (r = 1))) q2 (show eC (.int 1) (LE ns i (.own m2) c3 c4 c5 c6 c7 c8 c9 c10 c11 c12 c13 c14 c15 c16 c17 c18) = _ from rfl) (eq_ii r 1)
  exact ⟨s, decide (r = 1), m2, par2 (ρ1 := LE ns i (.own m1) c3 c4 c5 c6 c7 c8 c9 c10 c11 c12 c13 c14 c15 c16 c17 c18) (ρ2 := LE ns i (.own m2) c3 c4 c5 c6 c7 c8 c9 c10 c11 c12 c13 c14 c15 c16 c17 c18) q1 q3 n7 n8, b2⟩
/-- shape and within, as the kind has them -/
theorem a4 (s : Fin 4) (x : Bool) (W0 : Wd) : ∃ sh ib : D, t_law_4 (LE ns i c2 c3 c4 (.val W0.kd) c6 (.val (.str (sM s))) (.val (.bl x)) c9 c10 c11 c12 c13 c14 c15 c16 c17 c18) = .nx (LE ns i c2 c3 c4 (.val W0.kd) c6 (.val sh) (.val ib) c9 c10 c11 c12 c13 c14 c15 c16 c17 c18) ∧ ∀ e, ∃ W : Wd, W.kd = W0.kd ∧ W.tm = W0.tm ∧ W.sh = sh ∧ W.ib = ib ∧ W.wd = .str (wE e) ∧ W.skel = W0.skel := by
  have e0 : bBl (eOp (op2 neD) [(.ex (eVar 5)), (.ex (eC (.str "moments")))]) (LE ns i c2 c3 c4 (.val W0.kd) c6 (.val (.str (sM s))) (.val (.bl x)) c9 c10 c11 c12 c13 c14 c15 c16 c17 c18) = .ok _ (LE ns i c2 c3 c4 (.val W0.kd) c6 (.val (.str (sM s))) (.val (.bl x)) c9 c10 c11 c12 c13 c14 c15 c16 c17 c18) := bb_ok (eop2_ok rfl rfl (kd_nm W0))
  have yes : sAsg (eTup [(.ex (eC .non)), (.ex (eC .non))]) (gTupD 2 (gsCons (gSet 7) (gsCons (gSet 8) gsNil))) (LE ns i c2 c3 c4 (.val W0.kd) c6 (.val (.str (sM s))) (.val (.bl x)) c9 c10 c11 c12 c13 c14 c15 c16 c17 c18) = .nx (LE ns i c2 c3 c4 (.val W0.kd) c6 (.val .non) (.val .non) c9 c10 c11 c12 c13 c14 c15 c16 c17 c18) := by
    rfl
  unfold t_law_4
  cases W0 with
  | m t s0 b0 e0' => exact ⟨_, _, if_noS e0, fun e => ⟨.m t s x e, rfl, rfl, rfl, rfl, rfl, rfl⟩⟩
  | a t e0' => exact ⟨_, _, (if_yesS e0).trans yes, fun e => ⟨.a t e, rfl, rfl, rfl, rfl, rfl, rfl⟩⟩
  | n t e0' => exact ⟨_, _, (if_yesS e0).trans yes, fun e => ⟨.n t e, rfl, rfl, rfl, rfl, rfl, rfl⟩⟩
theorem a5 (b : Bg m) (n9 : NB c9) : ∃ (e : Bool) (m' : Mu), t_law_5 (LE ns i (.own m) c3 c4 c5 c6 c7 c8 c9 c10 c11 c12 c13 c14 c15 c16 c17 c18) = .nx (LE ns i (.own m') c3 c4 c5 c6 c7 c8 (.val (.str (wE e))) c10 c11 c12 c13 c14 c15 c16 c17 c18) ∧ Bg m' := by
  obtain ⟨d, m1, hd, e1, b1⟩ := of_ok (ds := [D.str "half", .str "shut"]) b (by decide) (by decide)
  obtain ⟨e, rfl⟩ := word_of hd
  have l : eFr (fLst [(.ex (eC (.str "half"))), (.ex (eC (.str "shut")))]) (LE ns i (.own m) c3 c4 c5 c6 c7 c8 c9 c10 c11 c12 c13 c14 c15 c16 c17 c18) = .ok (.lst [.str "half", .str "shut"]) (LE ns i (.own m) c3 c4 c5 c6 c7 c8 c9 c10 c11 c12 c13 c14 c15 c16 c17 c18) := by
    generalize LE ns i (.own m) c3 c4 c5 c6 c7 c8 c9 c10 c11 c12 c13 c14 c15 c16 c17 c18 = ρ
    simp [fnN, fnB, fnBF, sSeq, sRet, sRetF, sRetN, sIf, sSet, sNil, sExpr, sOwn, sPar, sAsg, sMut, sApp, sPut, eVar, eC, eOp, eCall, eAnd, eOr, eNot, eIf, eTup, eFr, fLst, Opd.ev, evs, Arg.dat, dats, vals?, op1, op2, appF, cells, Arg.cell, sls, wb, finC, eChain, bAnd, bOr, bNot, bBl, bTru, truth, lt_ii, le_ii, gt_ii, ge_ii, neg_i, add_ii, sub_ii, max_ii, min_ii, add_ll, add_tt, sizeLine_eq, gTupD, gsCons, gsNil, gSet, notBor_eq, nbO_val, nbO_no, nbO_own, nbO_oc, ix_l, ix_t, Cell.mu?, Cell.lst?, Mu.lst?, len_l, len_t, eIsi, isi_pr, isiD, tyS, List.lookup, gTup_pr, ix_pr0, ix_pr1, at2_0, at2_1, D.fit, D.pure, pures, D.py, pys, PyData.depth, PyData.depthAll, at3_0, at3_1, at3_2, set3_0, set3_1, set3_2, set2_0, set2_1, eq_ii, ne_ii, eq_ss, ne_ss, eq_bb, ne_bb, int_i, abs_i, Cell.put, putAt, len_scr, isN_int, isN_non, oc_mu, oc_noX, nbO_oc, sTry, trS, exS, Sr.out, dropX, noExn, Cell.noX, eXf, eXis, sRaiseB, eMethN, eMethX, noKey, isIns, eConI, eMkKN, eMkKX, eMkX, eMk, eFld, fldD, sFor, fSeq, seqD, eSFld, sFldS, putK, pow6, pow15, pow18, pow20, pow30, pow31, eOpX, eOpN, gSqD, sParF, sParE, eCallK, sIns, eJs, joinE, FPart.ev, fmtD, eJoin, gPl, gNil, gSeq, gYield, gFor, fMethN, fMethX, onlyX, eMethKX, eMethKN, eCallKPX, eCallKPN, fMethFX, fMethKX, fMethKN, fLst]
  have q1 := slx (i := 2) (fn := fn_l_of) rfl l e1
  exact ⟨e, m1, set_ok (ρ1 := LE ns i (.own m1) c3 c4 c5 c6 c7 c8 c9 c10 c11 c12 c13 c14 c15 c16 c17 c18) q1 n9, b1⟩
theorem tup5 {f g k l n : EX} {ρ : PEnv} {a b c d e : D} (h1 : f ρ = .ok a ρ) (h2 : g ρ = .ok b ρ) (h3 : k ρ = .ok c ρ) (h4 : l ρ = .ok d ρ) (h5 : n ρ = .ok e ρ) : eTup [.ex f, .ex g, .ex k, .ex l, .ex n] ρ = .ok (.tup [a, b, c, d, e]) ρ := by
  simp [fnN, fnB, fnBF, sSeq, sRet, sRetF, sRetN, sIf, sSet, sNil, sExpr, sOwn, sPar, sAsg, sMut, sApp, sPut, eVar, eC, eOp, eCall, eAnd, eOr, eNot, eIf, eTup, eFr, fLst, Opd.ev, evs, Arg.dat, dats, vals?, op1, op2, appF, cells, Arg.cell, sls, wb, finC, eChain, bAnd, bOr, bNot, bBl, bTru, truth, lt_ii, le_ii, gt_ii, ge_ii, neg_i, add_ii, sub_ii, max_ii, min_ii, add_ll, add_tt, sizeLine_eq, gTupD, gsCons, gsNil, gSet, notBor_eq, nbO_val, nbO_no, nbO_own, nbO_oc, ix_l, ix_t, Cell.mu?, Cell.lst?, Mu.lst?, len_l, len_t, eIsi, isi_pr, isiD, tyS, List.lookup, gTup_pr, ix_pr0, ix_pr1, at2_0, at2_1, D.fit, D.pure, pures, D.py, pys, PyData.depth, PyData.depthAll, at3_0, at3_1, at3_2, set3_0, set3_1, set3_2, set2_0, set2_1, eq_ii, ne_ii, eq_ss, ne_ss, eq_bb, ne_bb, int_i, abs_i, Cell.put, putAt, len_scr, isN_int, isN_non, oc_mu, oc_noX, nbO_oc, sTry, trS, exS, Sr.out, dropX, noExn, Cell.noX, eXf, eXis, sRaiseB, eMethN, eMethX, noKey, isIns, eConI, eMkKN, eMkKX, eMkX, eMk, eFld, fldD, sFor, fSeq, seqD, eSFld, sFldS, putK, pow6, pow15, pow18, pow20, pow30, pow31, eOpX, eOpN, gSqD, sParF, sParE, eCallK, sIns, eJs, joinE, FPart.ev, fmtD, eJoin, gPl, gNil, gSeq, gYield, gFor, fMethN, fMethX, onlyX, eMethKX, eMethKN, eCallKPX, eCallKPN, fMethFX, fMethKX, fMethKN, h1, h2, h3, h4, h5]
/-- a turn of the inner loop -/
def LA (ns : List Int) (i : Nat) (m : Mu) (X : List Wd) (k : D) (c6 c7 c8 c9 c10 c11 c12 c13 c14 c15 c16 c17 c18 : Cell) : PEnv := LE ns i (.own m) (.own (.lst (X.map Wd.row))) (.own (.lst (X.map Wd.wish))) (.val k) c6 c7 c8 c9 c10 c11 c12 c13 c14 c15 c16 c17 c18
theorem turn_a (b : Bg m) (hx : X.length ≤ 100) (n7 : NB c7) (n8 : NB c8) (n9 : NB c9) (W0 : Wd) : ∃ (W : Wd) (m' : Mu), b_law_1 (LA ns i m X W0.kd (.val W0.tm) c7 c8 c9 c10 c11 c12 c13 c14 c15 c16 c17 c18) = .nx (LA ns i m' (X ++ [W]) W0.kd (.val W0.tm) (.val W.sh) (.val W.ib) (.val W.wd) c10 c11 c12 c13 c14 c15 c16 c17 c18) ∧ W.skel = W0.skel ∧ Bg m' := by
  obtain ⟨s, x, m1, q3, b1⟩ := a3 (ns := ns) (i := i) (c3 := .own (.lst (X.map Wd.row))) (c4 := .own (.lst (X.map Wd.wish))) (c5 := .val W0.kd) (c6 := .val W0.tm) (c9 := c9) (c10 := c10) (c11 := c11) (c12 := c12) (c13 := c13) (c14 := c14) (c15 := c15) (c16 := c16) (c17 := c17) (c18 := c18) b n7 n8
  obtain ⟨sh, ib, q4, hw⟩ := a4 (ns := ns) (i := i) (c2 := .own m1) (c3 := .own (.lst (X.map Wd.row))) (c4 := .own (.lst (X.map Wd.wish))) (c6 := .val W0.tm) (c9 := c9) (c10 := c10) (c11 := c11) (c12 := c12) (c13 := c13) (c14 := c14) (c15 := c15) (c16 := c16) (c17 := c17) (c18 := c18) s x W0
  obtain ⟨e, m2, q5, b2⟩ := a5 (ns := ns) (i := i) (c3 := .own (.lst (X.map Wd.row))) (c4 := .own (.lst (X.map Wd.wish))) (c5 := .val W0.kd) (c6 := .val W0.tm) (c7 := .val sh) (c8 := .val ib) (c9 := c9) (c10 := c10) (c11 := c11) (c12 := c12) (c13 := c13) (c14 := c14) (c15 := c15) (c16 := c16) (c17 := c17) (c18 := c18) b1 n9
  obtain ⟨W, k1, k2, rfl, rfl, k5, k6⟩ := hw e
  refine ⟨W, m2, ?_, k6, b2⟩
  unfold LA
  rw [← k1, ← k2] at q3 q4 q5 ⊢
  rw [← k5] at q5
  have r6 : t_law_6 (LE ns i (.own m2) (.own (.lst (X.map Wd.row))) (.own (.lst (X.map Wd.wish))) (.val W.kd) (.val W.tm) (.val W.sh) (.val W.ib) (.val W.wd) c10 c11 c12 c13 c14 c15 c16 c17 c18) = .nx (LE ns i (.own m2) (.own (.lst ((X ++ [W]).map Wd.row))) (.own (.lst (X.map Wd.wish))) (.val W.kd) (.val W.tm) (.val W.sh) (.val W.ib) (.val W.wd) c10 c11 c12 c13 c14 c15 c16 c17 c18) := by
    unfold t_law_6
    rw [List.map_append]
    exact app_set (ρ1 := LE ns i (.own m2) (.own (.lst (X.map Wd.row))) (.own (.lst (X.map Wd.wish))) (.val W.kd) (.val W.tm) (.val W.sh) (.val W.ib) (.val W.wd) c10 c11 c12 c13 c14 c15 c16 c17 c18) rfl (tup5 rfl rfl rfl rfl rfl) rfl (by rw [List.length_map]; omega)
  have r7 : t_law_7 (LE ns i (.own m2) (.own (.lst ((X ++ [W]).map Wd.row))) (.own (.lst (X.map Wd.wish))) (.val W.kd) (.val W.tm) (.val W.sh) (.val W.ib) (.val W.wd) c10 c11 c12 c13 c14 c15 c16 c17 c18) = .nx (LE ns i (.own m2) (.own (.lst ((X ++ [W]).map Wd.row))) (.own (.lst ((X ++ [W]).map Wd.wish))) (.val W.kd) (.val W.tm) (.val W.sh) (.val W.ib) (.val W.wd) c10 c11 c12 c13 c14 c15 c16 c17 c18) := by
    unfold t_law_7
    rw [show (X ++ [W]).map Wd.wish = X.map Wd.wish ++ [W.wish] by rw [List.map_append]; rfl]
    exact app_set (ρ1 := LE ns i (.own m2) (.own (.lst ((X ++ [W]).map Wd.row))) (.own (.lst (X.map Wd.wish))) (.val W.kd) (.val W.tm) (.val W.sh) (.val W.ib) (.val W.wd) c10 c11 c12 c13 c14 c15 c16 c17 c18) rfl (lwx (V := W) rfl rfl rfl rfl rfl) rfl (by rw [List.length_map]; omega)
  unfold b_law_1
  rw [seq_nx q3, seq_nx q4, seq_nx q5, seq_nx r6, r7]
theorem loop_a : ∀ (S : List Wd) (k : D) (X : List Wd) (m : Mu) (c6 c7 c8 c9 : Cell), (∀ W ∈ S, W.kd = k) → Bg m → X.length + S.length ≤ 100 → NB c6 → NB c7 → NB c8 → NB c9 →
    ∃ (Y : List Wd) (m' : Mu) (d6 d7 d8 d9 : Cell), loopD (gSet 6) b_law_1 (S.map Wd.tm) (LA ns i m X k c6 c7 c8 c9 c10 c11 c12 c13 c14 c15 c16 c17 c18) = .nx (LA ns i m' (X ++ Y) k d6 d7 d8 d9 c10 c11 c12 c13 c14 c15 c16 c17 c18) ∧ Y.map Wd.skel = S.map Wd.skel ∧ Bg m' ∧ NB d6 ∧ NB d7 ∧ NB d8 ∧ NB d9
  | [], k, X, m, c6, c7, c8, c9, _, b, _, n6, n7, n8, n9 => ⟨[], m, c6, c7, c8, c9, by rw [List.append_nil]; rfl, rfl, b, n6, n7, n8, n9⟩
  | W0 :: S, k, X, m, c6, c7, c8, c9, hk, b, hl, n6, n7, n8, n9 => by
    obtain rfl := hk W0 List.mem_cons_self
    rw [List.length_cons] at hl
    obtain ⟨W, m1, q, w, b1⟩ := turn_a (ns := ns) (i := i) (X := X) (c10 := c10) (c11 := c11) (c12 := c12) (c13 := c13) (c14 := c14) (c15 := c15) (c16 := c16) (c17 := c17) (c18 := c18) b (by omega) n7 n8 n9 W0
    obtain ⟨Y, m2, d6, d7, d8, d9, q2, w2, b2, n6', n7', n8', n9'⟩ := loop_a S W0.kd (X ++ [W]) m1 (.val W0.tm) (.val W.sh) (.val W.ib) (.val W.wd) (fun V hV => hk V (List.mem_cons_of_mem _ hV)) b1 (by rw [List.length_append, List.length_singleton]; omega) rfl rfl rfl rfl
    refine ⟨W :: Y, m2, d6, d7, d8, d9, ?_, by rw [List.map_cons, List.map_cons, w, w2], b2, n6', n7', n8', n9'⟩
    have g : gSet 6 W0.tm (LA ns i m X W0.kd c6 c7 c8 c9 c10 c11 c12 c13 c14 c15 c16 c17 c18) = some (LA ns i m X W0.kd (.val W0.tm) c7 c8 c9 c10 c11 c12 c13 c14 c15 c16 c17 c18) := by
      unfold gSet
      rw [if_pos (show notBor (LA ns i m X W0.kd c6 c7 c8 c9 c10 c11 c12 c13 c14 c15 c16 c17 c18) 6 = true by rw [notBor_eq]; exact n6)]; rfl
    rw [List.map_cons]
    unfold loopD
    rw [g]
    simp only [q, q2, List.append_assoc, List.singleton_append]
def SM : List Wd := [.m 0 0 false false, .m 1 0 false false, .m 2 0 false false, .m 3 0 false false, .m 4 0 false false, .m 5 0 false false, .m 6 0 false false]
def SA : List Wd := [.a 0 false, .a 1 false, .a 2 false]
def SN : List Wd := [.n 0 false, .n 1 false, .n 2 false, .n 3 false, .n 4 false, .n 5 false]
theorem terms_m : fn_l_terms [.val (.str "moments")] = .ok (SM.map Wd.tm) [.val (.str "moments")] := by
  unfold fn_l_terms sem_l_terms
  simp [fnN, fnB, fnBF, sSeq, sRet, sRetF, sRetN, sIf, sSet, sNil, sExpr, sOwn, sPar, sAsg, sMut, sApp, sPut, eVar, eC, eOp, eCall, eAnd, eOr, eNot, eIf, eTup, eFr, fLst, Opd.ev, evs, Arg.dat, dats, vals?, op1, op2, appF, cells, Arg.cell, sls, wb, finC, eChain, bAnd, bOr, bNot, bBl, bTru, truth, lt_ii, le_ii, gt_ii, ge_ii, neg_i, add_ii, sub_ii, max_ii, min_ii, add_ll, add_tt, sizeLine_eq, gTupD, gsCons, gsNil, gSet, notBor_eq, nbO_val, nbO_no, nbO_own, nbO_oc, ix_l, ix_t, Cell.mu?, Cell.lst?, Mu.lst?, len_l, len_t, eIsi, isi_pr, isiD, tyS, List.lookup, gTup_pr, ix_pr0, ix_pr1, at2_0, at2_1, D.fit, D.pure, pures, D.py, pys, PyData.depth, PyData.depthAll, at3_0, at3_1, at3_2, set3_0, set3_1, set3_2, set2_0, set2_1, eq_ii, ne_ii, eq_ss, ne_ss, eq_bb, ne_bb, int_i, abs_i, Cell.put, putAt, len_scr, isN_int, isN_non, oc_mu, oc_noX, nbO_oc, sTry, trS, exS, Sr.out, dropX, noExn, Cell.noX, eXf, eXis, sRaiseB, eMethN, eMethX, noKey, isIns, eConI, eMkKN, eMkKX, eMkX, eMk, eFld, fldD, sFor, fSeq, seqD, eSFld, sFldS, putK, pow6, pow15, pow18, pow20, pow30, pow31, eOpX, eOpN, gSqD, sParF, sParE, eCallK, sIns, eJs, joinE, FPart.ev, fmtD, eJoin, gPl, gNil, gSeq, gYield, gFor, fMethN, fMethX, onlyX, eMethKX, eMethKN, eCallKPX, eCallKPN, fMethFX, fMethKX, fMethKN, t_l_terms_1, fLst, SM, Wd.tm, tM]
theorem terms_a : fn_l_terms [.val (.str "answer")] = .ok (SA.map Wd.tm) [.val (.str "answer")] := by
  unfold fn_l_terms sem_l_terms
  simp [fnN, fnB, fnBF, sSeq, sRet, sRetF, sRetN, sIf, sSet, sNil, sExpr, sOwn, sPar, sAsg, sMut, sApp, sPut, eVar, eC, eOp, eCall, eAnd, eOr, eNot, eIf, eTup, eFr, fLst, Opd.ev, evs, Arg.dat, dats, vals?, op1, op2, appF, cells, Arg.cell, sls, wb, finC, eChain, bAnd, bOr, bNot, bBl, bTru, truth, lt_ii, le_ii, gt_ii, ge_ii, neg_i, add_ii, sub_ii, max_ii, min_ii, add_ll, add_tt, sizeLine_eq, gTupD, gsCons, gsNil, gSet, notBor_eq, nbO_val, nbO_no, nbO_own, nbO_oc, ix_l, ix_t, Cell.mu?, Cell.lst?, Mu.lst?, len_l, len_t, eIsi, isi_pr, isiD, tyS, List.lookup, gTup_pr, ix_pr0, ix_pr1, at2_0, at2_1, D.fit, D.pure, pures, D.py, pys, PyData.depth, PyData.depthAll, at3_0, at3_1, at3_2, set3_0, set3_1, set3_2, set2_0, set2_1, eq_ii, ne_ii, eq_ss, ne_ss, eq_bb, ne_bb, int_i, abs_i, Cell.put, putAt, len_scr, isN_int, isN_non, oc_mu, oc_noX, nbO_oc, sTry, trS, exS, Sr.out, dropX, noExn, Cell.noX, eXf, eXis, sRaiseB, eMethN, eMethX, noKey, isIns, eConI, eMkKN, eMkKX, eMkX, eMk, eFld, fldD, sFor, fSeq, seqD, eSFld, sFldS, putK, pow6, pow15, pow18, pow20, pow30, pow31, eOpX, eOpN, gSqD, sParF, sParE, eCallK, sIns, eJs, joinE, FPart.ev, fmtD, eJoin, gPl, gNil, gSeq, gYield, gFor, fMethN, fMethX, onlyX, eMethKX, eMethKN, eCallKPX, eCallKPN, fMethFX, fMethKX, fMethKN, t_l_terms_1, t_l_terms_2, fLst, fIfL, SA, Wd.tm, tA]
theorem terms_n : fn_l_terms [.val (.str "number")] = .ok (SN.map Wd.tm) [.val (.str "number")] := by
  unfold fn_l_terms sem_l_terms
  simp [fnN, fnB, fnBF, sSeq, sRet, sRetF, sRetN, sIf, sSet, sNil, sExpr, sOwn, sPar, sAsg, sMut, sApp, sPut, eVar, eC, eOp, eCall, eAnd, eOr, eNot, eIf, eTup, eFr, fLst, Opd.ev, evs, Arg.dat, dats, vals?, op1, op2, appF, cells, Arg.cell, sls, wb, finC, eChain, bAnd, bOr, bNot, bBl, bTru, truth, lt_ii, le_ii, gt_ii, ge_ii, neg_i, add_ii, sub_ii, max_ii, min_ii, add_ll, add_tt, sizeLine_eq, gTupD, gsCons, gsNil, gSet, notBor_eq, nbO_val, nbO_no, nbO_own, nbO_oc, ix_l, ix_t, Cell.mu?, Cell.lst?, Mu.lst?, len_l, len_t, eIsi, isi_pr, isiD, tyS, List.lookup, gTup_pr, ix_pr0, ix_pr1, at2_0, at2_1, D.fit, D.pure, pures, D.py, pys, PyData.depth, PyData.depthAll, at3_0, at3_1, at3_2, set3_0, set3_1, set3_2, set2_0, set2_1, eq_ii, ne_ii, eq_ss, ne_ss, eq_bb, ne_bb, int_i, abs_i, Cell.put, putAt, len_scr, isN_int, isN_non, oc_mu, oc_noX, nbO_oc, sTry, trS, exS, Sr.out, dropX, noExn, Cell.noX, eXf, eXis, sRaiseB, eMethN, eMethX, noKey, isIns, eConI, eMkKN, eMkKX, eMkX, eMk, eFld, fldD, sFor, fSeq, seqD, eSFld, sFldS, putK, pow6, pow15, pow18, pow20, pow30, pow31, eOpX, eOpN, gSqD, sParF, sParE, eCallK, sIns, eJs, joinE, FPart.ev, fmtD, eJoin, gPl, gNil, gSeq, gYield, gFor, fMethN, fMethX, onlyX, eMethKX, eMethKN, eCallKPX, eCallKPN, fMethFX, fMethKX, fMethKN, t_l_terms_1, t_l_terms_2, fLst, fIfL, SN, Wd.tm, tN]
theorem clF1 {fn : List Cell → Rs (List D)} {f0 : EX} {ρ : PEnv} {a : D} {z : List D} (h0 : f0 ρ = .ok a ρ) (h : fn [.val a] = .ok z [.val a]) : eCall 1 fn [] [.ex f0] ρ = .ok z ρ := by
  simp [fnN, fnB, fnBF, sSeq, sRet, sRetF, sRetN, sIf, sSet, sNil, sExpr, sOwn, sPar, sAsg, sMut, sApp, sPut, eVar, eC, eOp, eCall, eAnd, eOr, eNot, eIf, eTup, eFr, fLst, Opd.ev, evs, Arg.dat, dats, vals?, op1, op2, appF, cells, Arg.cell, sls, wb, finC, eChain, bAnd, bOr, bNot, bBl, bTru, truth, lt_ii, le_ii, gt_ii, ge_ii, neg_i, add_ii, sub_ii, max_ii, min_ii, add_ll, add_tt, sizeLine_eq, gTupD, gsCons, gsNil, gSet, notBor_eq, nbO_val, nbO_no, nbO_own, nbO_oc, ix_l, ix_t, Cell.mu?, Cell.lst?, Mu.lst?, len_l, len_t, eIsi, isi_pr, isiD, tyS, List.lookup, gTup_pr, ix_pr0, ix_pr1, at2_0, at2_1, D.fit, D.pure, pures, D.py, pys, PyData.depth, PyData.depthAll, at3_0, at3_1, at3_2, set3_0, set3_1, set3_2, set2_0, set2_1, eq_ii, ne_ii, eq_ss, ne_ss, eq_bb, ne_bb, int_i, abs_i, Cell.put, putAt, len_scr, isN_int, isN_non, oc_mu, oc_noX, nbO_oc, sTry, trS, exS, Sr.out, dropX, noExn, Cell.noX, eXf, eXis, sRaiseB, eMethN, eMethX, noKey, isIns, eConI, eMkKN, eMkKX, eMkX, eMk, eFld, fldD, sFor, fSeq, seqD, eSFld, sFldS, putK, pow6, pow15, pow18, pow20, pow30, pow31, eOpX, eOpN, gSqD, sParF, sParE, eCallK, sIns, eJs, joinE, FPart.ev, fmtD, eJoin, gPl, gNil, gSeq, gYield, gFor, fMethN, fMethX, onlyX, eMethKX, eMethKN, eCallKPX, eCallKPN, fMethFX, fMethKX, fMethKN, h0, h]
theorem turn_k {k : D} {S : List Wd} (hS : fn_l_terms [.val k] = .ok (S.map Wd.tm) [.val k]) (hk : ∀ W ∈ S, W.kd = k) (b : Bg m) (hl : X.length + S.length ≤ 100) (n6 : NB c6) (n7 : NB c7) (n8 : NB c8) (n9 : NB c9) :
    ∃ (Y : List Wd) (m' : Mu) (d6 d7 d8 d9 : Cell), b_law_2 (LA ns i m X k c6 c7 c8 c9 c10 c11 c12 c13 c14 c15 c16 c17 c18) = .nx (LA ns i m' (X ++ Y) k d6 d7 d8 d9 c10 c11 c12 c13 c14 c15 c16 c17 c18) ∧ Y.map Wd.skel = S.map Wd.skel ∧ Bg m' ∧ NB d6 ∧ NB d7 ∧ NB d8 ∧ NB d9 := by
  obtain ⟨Y, m', d6, d7, d8, d9, q, r⟩ := loop_a (ns := ns) (i := i) (c10 := c10) (c11 := c11) (c12 := c12) (c13 := c13) (c14 := c14) (c15 := c15) (c16 := c16) (c17 := c17) (c18 := c18) S k X m c6 c7 c8 c9 hk b hl n6 n7 n8 n9
  refine ⟨Y, m', d6, d7, d8, d9, ?_, r⟩
  have e := efr_ok (clF1 (ρ := LA ns i m X k c6 c7 c8 c9 c10 c11 c12 c13 c14 c15 c16 c17 c18) (f0 := eVar 5) rfl hS)
  show t_law_8 _ = _
  unfold t_law_8
  exact for_ok (by unfold fSeq; rw [e]; rfl) q
theorem gset5 {k k' : D} : gSet 5 k' (LA ns i m X k c6 c7 c8 c9 c10 c11 c12 c13 c14 c15 c16 c17 c18) = some (LA ns i m X k' c6 c7 c8 c9 c10 c11 c12 c13 c14 c15 c16 c17 c18) := rfl
def SK : List Wd := SM ++ (SA ++ SN)
theorem built (b : Bg m) (n5 : NB c5) (n6 : NB c6) (n7 : NB c7) (n8 : NB c8) (n9 : NB c9) :
    ∃ (Y : List Wd) (m' : Mu) (k : D) (d6 d7 d8 d9 : Cell), t_law_9 (LE ns i (.own m) (.own (.lst [])) (.own (.lst [])) c5 c6 c7 c8 c9 c10 c11 c12 c13 c14 c15 c16 c17 c18) = .nx (LA ns i m' Y k d6 d7 d8 d9 c10 c11 c12 c13 c14 c15 c16 c17 c18) ∧ Y.map Wd.skel = SK ∧ Bg m' ∧ NB d6 ∧ NB d7 ∧ NB d8 ∧ NB d9 := by
  obtain ⟨Y1, m1, p6, p7, p8, p9, q1, w1, b1, x6, x7, x8, x9⟩ := turn_k (ns := ns) (i := i) (X := []) (c10 := c10) (c11 := c11) (c12 := c12) (c13 := c13) (c14 := c14) (c15 := c15) (c16 := c16) (c17 := c17) (c18 := c18) terms_m (by simp [SM, Wd.kd]) b (by decide) n6 n7 n8 n9
  have l1 : Y1.length = 7 := by have := congrArg List.length w1; simpa [SM] using this
  obtain ⟨Y2, m2, r6, r7, r8, r9, q2, w2, b2, y6, y7, y8, y9⟩ := turn_k (ns := ns) (i := i) (X := [] ++ Y1) (c10 := c10) (c11 := c11) (c12 := c12) (c13 := c13) (c14 := c14) (c15 := c15) (c16 := c16) (c17 := c17) (c18 := c18) terms_a (by simp [SA, Wd.kd]) b1 (by simp [l1, SA]) x6 x7 x8 x9
  have l2 : Y2.length = 3 := by have := congrArg List.length w2; simpa [SA] using this
  obtain ⟨Y3, m3, s6, s7, s8, s9, q3, w3, b3, z6, z7, z8, z9⟩ := turn_k (ns := ns) (i := i) (X := ([] ++ Y1) ++ Y2) (c10 := c10) (c11 := c11) (c12 := c12) (c13 := c13) (c14 := c14) (c15 := c15) (c16 := c16) (c17 := c17) (c18 := c18) terms_n (by simp [SN, Wd.kd]) b2 (by simp [l1, l2, SN]) y6 y7 y8 y9
  refine ⟨(([] ++ Y1) ++ Y2) ++ Y3, m3, .str "number", s6, s7, s8, s9, ?_, ?_, b3, z6, z7, z8, z9⟩
  · have g1 : gSet 5 (.str "moments") (LE ns i (.own m) (.own (.lst [])) (.own (.lst [])) c5 c6 c7 c8 c9 c10 c11 c12 c13 c14 c15 c16 c17 c18) = some (LA ns i m [] (.str "moments") c6 c7 c8 c9 c10 c11 c12 c13 c14 c15 c16 c17 c18) := by
      unfold gSet
      rw [if_pos (show notBor (LE ns i (.own m) (.own (.lst [])) (.own (.lst [])) c5 c6 c7 c8 c9 c10 c11 c12 c13 c14 c15 c16 c17 c18) 5 = true by rw [notBor_eq]; exact n5)]; rfl
    have it : fSeq (eFr (fLst [(.ex (eC (.str "moments"))), (.ex (eC (.str "answer"))), (.ex (eC (.str "number")))])) (LE ns i (.own m) (.own (.lst [])) (.own (.lst [])) c5 c6 c7 c8 c9 c10 c11 c12 c13 c14 c15 c16 c17 c18) = .ok [.str "moments", .str "answer", .str "number"] (LE ns i (.own m) (.own (.lst [])) (.own (.lst [])) c5 c6 c7 c8 c9 c10 c11 c12 c13 c14 c15 c16 c17 c18) := by
      generalize LE ns i (.own m) (.own (.lst [])) (.own (.lst [])) c5 c6 c7 c8 c9 c10 c11 c12 c13 c14 c15 c16 c17 c18 = ρ
      have fl : fLst [(.ex (eC (.str "moments"))), (.ex (eC (.str "answer"))), (.ex (eC (.str "number")))] ρ = .ok [.str "moments", .str "answer", .str "number"] ρ := fl3 rfl rfl rfl
      unfold fSeq
      rw [efr_ok fl]; rfl
    unfold t_law_9
    refine for_ok it ?_
    unfold loopD
    rw [g1]
    simp only [q1]
    unfold loopD
    rw [gset5]
    simp only [q2]
    unfold loopD
    rw [gset5]
    simp only [q3]
    rfl
  · rw [List.nil_append, List.map_append, List.map_append, w1, w2, w3]; rfl
theorem skel_nd {Y : List Wd} (h : Y.map Wd.skel = SK) : Y.Nodup ∧ Y.length = 16 := by
  refine ⟨(List.pairwise_map.mp (show List.Pairwise (· ≠ ·) (Y.map Wd.skel) by rw [h]; exact (by decide : SK.Nodup))).imp fun h e => h (congrArg Wd.skel e), ?_⟩
  have := congrArg List.length h
  rw [List.length_map] at this
  exact this
end
end Spk
namespace Spk
open PySem PySem.Spec PyProof.Rows L2
theorem frz34 {ρ : PEnv} {f : SX} {a b : D} (h4 : ρ[4]? = some (.val a)) (h3 : ρ[3]? = some (.val b)) : sFrz 3 (sFrz 4 f) ρ = f ρ := by
  unfold sFrz frz
  simp only [h3, h4]
section
variable {ns : List Int} {i : Nat} {c2 c3 c4 c5 c6 c7 c8 c9 c10 c11 c12 c13 c14 c15 c16 c17 c18 : Cell} {m : Mu} {X : List Wd} {W : Wd} {oe os : D}
theorem ord_e {d : D} (h : d ∈ EvT) : notInD d (.tup StT) = some (.bl true) ∧ notInD d (.tup EvT) = some (.bl false) ∧ inD d (.tup EvT) = some (.bl true) := by
  have q := (by decide +kernel : ∀ d ∈ EvT, (isT (notInD d (.tup StT)) && isF (notInD d (.tup EvT)) && isT (inD d (.tup EvT))) = true) d h
  simp only [Bool.and_eq_true] at q
  exact ⟨isT_eq q.1.1, isF_eq q.1.2, isT_eq q.2⟩
theorem ord_s {d : D} (h : d ∈ StT) : notInD d (.tup StT) = some (.bl false) ∧ inD d (.tup EvT) = some (.bl false) := by
  have q := (by decide +kernel : ∀ d ∈ StT, (isF (notInD d (.tup StT)) && isF (inD d (.tup EvT))) = true) d h
  simp only [Bool.and_eq_true] at q
  exact ⟨isF_eq q.1, isF_eq q.2⟩
theorem orders_e : fn_l_orders [.val (.str "events")] = .ok EvT [.val (.str "events")] := by
  unfold fn_l_orders sem_l_orders
  simp [fnN, fnB, fnBF, sSeq, sRet, sRetF, sRetN, sIf, sSet, sNil, sExpr, sOwn, sPar, sAsg, sMut, sApp, sPut, eVar, eC, eOp, eCall, eAnd, eOr, eNot, eIf, eTup, eFr, fLst, Opd.ev, evs, Arg.dat, dats, vals?, op1, op2, appF, cells, Arg.cell, sls, wb, finC, eChain, bAnd, bOr, bNot, bBl, bTru, truth, lt_ii, le_ii, gt_ii, ge_ii, neg_i, add_ii, sub_ii, max_ii, min_ii, add_ll, add_tt, sizeLine_eq, gTupD, gsCons, gsNil, gSet, notBor_eq, nbO_val, nbO_no, nbO_own, nbO_oc, ix_l, ix_t, Cell.mu?, Cell.lst?, Mu.lst?, len_l, len_t, eIsi, isi_pr, isiD, tyS, List.lookup, gTup_pr, ix_pr0, ix_pr1, at2_0, at2_1, D.fit, D.pure, pures, D.py, pys, PyData.depth, PyData.depthAll, at3_0, at3_1, at3_2, set3_0, set3_1, set3_2, set2_0, set2_1, eq_ii, ne_ii, eq_ss, ne_ss, eq_bb, ne_bb, int_i, abs_i, Cell.put, putAt, len_scr, isN_int, isN_non, oc_mu, oc_noX, nbO_oc, sTry, trS, exS, Sr.out, dropX, noExn, Cell.noX, eXf, eXis, sRaiseB, eMethN, eMethX, noKey, isIns, eConI, eMkKN, eMkKX, eMkX, eMk, eFld, fldD, sFor, fSeq, seqD, eSFld, sFldS, putK, pow6, pow15, pow18, pow20, pow30, pow31, eOpX, eOpN, gSqD, sParF, sParE, eCallK, sIns, eJs, joinE, FPart.ev, fmtD, eJoin, gPl, gNil, gSeq, gYield, gFor, fMethN, fMethX, onlyX, eMethKX, eMethKN, eCallKPX, eCallKPN, fMethFX, fMethKX, fMethKN, t_l_orders_1, fLst, EvT]
theorem orders_s : fn_l_orders [.val (.str "stretches")] = .ok StT [.val (.str "stretches")] := by
  unfold fn_l_orders sem_l_orders
  simp [fnN, fnB, fnBF, sSeq, sRet, sRetF, sRetN, sIf, sSet, sNil, sExpr, sOwn, sPar, sAsg, sMut, sApp, sPut, eVar, eC, eOp, eCall, eAnd, eOr, eNot, eIf, eTup, eFr, fLst, Opd.ev, evs, Arg.dat, dats, vals?, op1, op2, appF, cells, Arg.cell, sls, wb, finC, eChain, bAnd, bOr, bNot, bBl, bTru, truth, lt_ii, le_ii, gt_ii, ge_ii, neg_i, add_ii, sub_ii, max_ii, min_ii, add_ll, add_tt, sizeLine_eq, gTupD, gsCons, gsNil, gSet, notBor_eq, nbO_val, nbO_no, nbO_own, nbO_oc, ix_l, ix_t, Cell.mu?, Cell.lst?, Mu.lst?, len_l, len_t, eIsi, isi_pr, isiD, tyS, List.lookup, gTup_pr, ix_pr0, ix_pr1, at2_0, at2_1, D.fit, D.pure, pures, D.py, pys, PyData.depth, PyData.depthAll, at3_0, at3_1, at3_2, set3_0, set3_1, set3_2, set2_0, set2_1, eq_ii, ne_ii, eq_ss, ne_ss, eq_bb, ne_bb, int_i, abs_i, Cell.put, putAt, len_scr, isN_int, isN_non, oc_mu, oc_noX, nbO_oc, sTry, trS, exS, Sr.out, dropX, noExn, Cell.noX, eXf, eXis, sRaiseB, eMethN, eMethX, noKey, isIns, eConI, eMkKN, eMkKX, eMkX, eMk, eFld, fldD, sFor, fSeq, seqD, eSFld, sFldS, putK, pow6, pow15, pow18, pow20, pow30, pow31, eOpX, eOpN, gSqD, sParF, sParE, eCallK, sIns, eJs, joinE, FPart.ev, fmtD, eJoin, gPl, gNil, gSeq, gYield, gFor, fMethN, fMethX, onlyX, eMethKX, eMethKN, eCallKPX, eCallKPN, fMethFX, fMethKX, fMethKN, t_l_orders_1, t_l_orders_2, fLst, StT]
/-- the two loops -/
theorem t10 (b : Bg m) (n10 : NB c10) (n11 : NB c11) : ∃ (oe os : D) (m' : Mu), t_law_10 (LE ns i (.own m) (.own (.lst (X.map Wd.row))) (.own (.lst (X.map Wd.wish))) c5 c6 c7 c8 c9 c10 c11 c12 c13 c14 c15 c16 c17 c18) = .nx (LE ns i (.own m') (.val (.lst (X.map Wd.row))) (.val (.lst (X.map Wd.wish))) c5 c6 c7 c8 c9 (.val (lpD oe)) (.val (lpD os)) c12 c13 c14 c15 c16 c17 c18) ∧ inD oe (.tup EvT) = some (.bl true) ∧ inD os (.tup EvT) = some (.bl false) ∧ Bg m' := by
  obtain ⟨oe, m1, he, e1, b1⟩ := of_ok (ds := EvT) b (by decide) (by decide)
  obtain ⟨os, m2, hs, e2, b2⟩ := of_ok (ds := StT) b1 (by decide) (by decide)
  obtain ⟨p1, p2, p3⟩ := ord_e he
  obtain ⟨r1, r2⟩ := ord_s hs
  refine ⟨oe, os, m2, ?_, p3, r2, b2⟩
  have q1 := slx (i := 2) (fn := fn_l_of) (g := eFr (eCall 1 fn_l_orders [] [(.ex (eC (.str "events")))])) (ρ := LE ns i (.own m) (.val (.lst (X.map Wd.row))) (.val (.lst (X.map Wd.wish))) c5 c6 c7 c8 c9 c10 c11 c12 c13 c14 c15 c16 c17 c18) rfl (efr_ok (clF1 (f0 := eC (.str "events")) rfl orders_e)) e1
  have q2 := slx (i := 2) (fn := fn_l_of) (g := eFr (eCall 1 fn_l_orders [] [(.ex (eC (.str "stretches")))])) (ρ := LE ns i (.own m1) (.val (.lst (X.map Wd.row))) (.val (.lst (X.map Wd.wish))) c5 c6 c7 c8 c9 c10 c11 c12 c13 c14 c15 c16 c17 c18) rfl (efr_ok (clF1 (f0 := eC (.str "stretches")) rfl orders_s)) e2
  have k1 := lp_mk (ρ1 := LE ns i (.own m1) (.val (.lst (X.map Wd.row))) (.val (.lst (X.map Wd.wish))) c5 c6 c7 c8 c9 c10 c11 c12 c13 c14 c15 c16 c17 c18) q1 (.inr ⟨p1, p2⟩)
  have k2 := lp_mk (ρ1 := LE ns i (.own m2) (.val (.lst (X.map Wd.row))) (.val (.lst (X.map Wd.wish))) c5 c6 c7 c8 c9 c10 c11 c12 c13 c14 c15 c16 c17 c18) q2 (.inl r1)
  unfold t_law_10
  show sPar 10 11 _ (LE ns i (.own m) (.val (.lst (X.map Wd.row))) (.val (.lst (X.map Wd.wish))) c5 c6 c7 c8 c9 c10 c11 c12 c13 c14 c15 c16 c17 c18) = _
  exact par2 k1 k2 n10 n11
/-- the environment of the second loop -/
def LB (ns : List Int) (i : Nat) (m : Mu) (X : List Wd) (oe os : D) (c5 c6 c7 c8 c9 c12 c13 c14 c15 c16 c17 : Cell) : PEnv := LE ns i (.own m) (.val (.lst (X.map Wd.row))) (.val (.lst (X.map Wd.wish))) c5 c6 c7 c8 c9 (.val (lpD oe)) (.val (lpD os)) c12 c13 c14 c15 c16 c17 .no
theorem kn : Knows (LB ns i m X oe os (.val W.kd) (.val W.tm) (.val W.sh) (.val W.ib) (.val W.wd) c12 (.val W.wish) c14 c15 c16 c17) W X oe os := ⟨rfl, rfl, rfl, rfl, rfl, rfl, rfl, rfl, rfl, rfl⟩
theorem turn_b {k : Nat} (hx : X.Nodup) (hl : X.length = 16) (hk : k < 16) (he : inD oe (.tup EvT) = some (.bl true)) (hs : inD os (.tup EvT) = some (.bl false)) (n5 : NB c5) (n6 : NB c6) (n7 : NB c7) (n8 : NB c8) (n9 : NB c9) (n13 : NB c13) (n14 : NB c14) (n15 : NB c15) (n16 : NB c16) (n17 : NB c17) :
    ∃ d5 d6 d7 d8 d9 d13 d14 d15 d16 d17 : D, b_law_3 (LB ns i m X oe os c5 c6 c7 c8 c9 (.val (.int k)) c13 c14 c15 c16 c17) = .nx (LB ns i m X oe os (.val d5) (.val d6) (.val d7) (.val d8) (.val d9) (.val (.int k)) (.val d13) (.val d14) (.val d15) (.val d16) (.val d17)) := by
  have lt : k < X.length := by omega
  generalize hW : X[k] = W
  have hm : W ∈ X := hW ▸ List.getElem_mem lt
  have x1 : ixD (.lst (X.map Wd.row)) (.int k) = some W.row := by
    show atI (X.map Wd.row) (k : Int) = _
    rw [at_nat, List.getElem?_map, List.getElem?_eq_getElem lt, hW]; rfl
  have x2 : ixD (.lst (X.map Wd.wish)) (.int k) = some W.wish := by
    show atI (X.map Wd.wish) (k : Int) = _
    rw [at_nat, List.getElem?_map, List.getElem?_eq_getElem lt, hW]; rfl
  have q11 : t_law_11 (LB ns i m X oe os c5 c6 c7 c8 c9 (.val (.int k)) c13 c14 c15 c16 c17) = .nx (LB ns i m X oe os (.val W.kd) (.val W.tm) (.val W.sh) (.val W.ib) (.val W.wd) (.val (.int k)) c13 c14 c15 c16 c17) := by
    have e : eOp (op2 ixD) [(.ex (eVar 3)), (.ex (eVar 12))] (LB ns i m X oe os c5 c6 c7 c8 c9 (.val (.int k)) c13 c14 c15 c16 c17) = .ok W.row (LB ns i m X oe os c5 c6 c7 c8 c9 (.val (.int k)) c13 c14 c15 c16 c17) := eop2_ok (f := eVar 3) (g := eVar 12) rfl rfl x1
    have n5 : nbO (some c5) = true := n5
    have n6 : nbO (some c6) = true := n6
    have n7 : nbO (some c7) = true := n7
    have n8 : nbO (some c8) = true := n8
    have n9 : nbO (some c9) = true := n9
    have g : gTupD 5 (gsCons (gSet 5) (gsCons (gSet 6) (gsCons (gSet 7) (gsCons (gSet 8) (gsCons (gSet 9) gsNil))))) W.row (LB ns i m X oe os c5 c6 c7 c8 c9 (.val (.int k)) c13 c14 c15 c16 c17) = some (LB ns i m X oe os (.val W.kd) (.val W.tm) (.val W.sh) (.val W.ib) (.val W.wd) (.val (.int k)) c13 c14 c15 c16 c17) := by
      unfold LB LE Wd.row
      generalize X.map Wd.row = A
      generalize X.map Wd.wish = B
      simp [fnN, fnB, fnBF, sSeq, sRet, sRetF, sRetN, sIf, sSet, sNil, sExpr, sOwn, sPar, sAsg, sMut, sApp, sPut, eVar, eC, eOp, eCall, eAnd, eOr, eNot, eIf, eTup, eFr, fLst, Opd.ev, evs, Arg.dat, dats, vals?, op1, op2, appF, cells, Arg.cell, sls, wb, finC, eChain, bAnd, bOr, bNot, bBl, bTru, truth, lt_ii, le_ii, gt_ii, ge_ii, neg_i, add_ii, sub_ii, max_ii, min_ii, add_ll, add_tt, sizeLine_eq, gTupD, gsCons, gsNil, gSet, notBor_eq, nbO_val, nbO_no, nbO_own, nbO_oc, ix_l, ix_t, Cell.mu?, Cell.lst?, Mu.lst?, len_l, len_t, eIsi, isi_pr, isiD, tyS, List.lookup, gTup_pr, ix_pr0, ix_pr1, at2_0, at2_1, D.fit, D.pure, pures, D.py, pys, PyData.depth, PyData.depthAll, at3_0, at3_1, at3_2, set3_0, set3_1, set3_2, set2_0, set2_1, eq_ii, ne_ii, eq_ss, ne_ss, eq_bb, ne_bb, int_i, abs_i, Cell.put, putAt, len_scr, isN_int, isN_non, oc_mu, oc_noX, nbO_oc, sTry, trS, exS, Sr.out, dropX, noExn, Cell.noX, eXf, eXis, sRaiseB, eMethN, eMethX, noKey, isIns, eConI, eMkKN, eMkKX, eMkX, eMk, eFld, fldD, sFor, fSeq, seqD, eSFld, sFldS, putK, pow6, pow15, pow18, pow20, pow30, pow31, eOpX, eOpN, gSqD, sParF, sParE, eCallK, sIns, eJs, joinE, FPart.ev, fmtD, eJoin, gPl, gNil, gSeq, gYield, gFor, fMethN, fMethX, onlyX, eMethKX, eMethKN, eCallKPX, eCallKPN, fMethFX, fMethKX, fMethKN, n5, n6, n7, n8, n9]
    unfold t_law_11 sAsg
    rw [e]
    show (match gTupD 5 _ W.row _ with | some ρ2 => Sr.nx ρ2 | none => .bad) = _
    rw [g]
  have q12 : t_law_12 (LB ns i m X oe os (.val W.kd) (.val W.tm) (.val W.sh) (.val W.ib) (.val W.wd) (.val (.int k)) c13 c14 c15 c16 c17) = .nx (LB ns i m X oe os (.val W.kd) (.val W.tm) (.val W.sh) (.val W.ib) (.val W.wd) (.val (.int k)) (.val W.wish) c14 c15 c16 c17) := by
    unfold t_law_12
    exact set_ok (eop2_ok (f := eVar 4) (g := eVar 12) (ρ := LB ns i m X oe os (.val W.kd) (.val W.tm) (.val W.sh) (.val W.ib) (.val W.wd) (.val (.int k)) c13 c14 c15 c16 c17) rfl rfl x2) n13
  have K := fun (c14 c15 c16 c17 : Cell) => kn (ns := ns) (i := i) (m := m) (X := X) (W := W) (oe := oe) (os := os) (c12 := .val (.int k)) (c14 := c14) (c15 := c15) (c16 := c16) (c17 := c17)
  have hc : c_law_1 (LB ns i m X oe os (.val W.kd) (.val W.tm) (.val W.sh) (.val W.ib) (.val W.wd) (.val (.int k)) (.val W.wish) c14 c15 c16 c17) = .ok ((X.map fun W' => decide (W' = W)).map D.bl) (LB ns i m X oe os (.val W.kd) (.val W.tm) (.val W.sh) (.val W.ib) (.val W.wd) (.val (.int k)) (.val W.wish) c14 c15 c16 c17) :=
    c1_ok (a := [.val (.scr ns), .val (.int i), .own m, .val (.lst (X.map Wd.row)), .val (.lst (X.map Wd.wish)), .val W.kd, .val W.tm, .val W.sh, .val W.ib, .val W.wd, .val (lpD oe), .val (lpD os), .val (.int k), .val W.wish, c14, c15, c16, c17]) (o := none) rfl rfl rfl (by omega)
  refine ⟨W.kd, W.tm, W.sh, W.ib, W.wd, W.wish, .bl W.uw, .bl W.wb, .str (wE (!W.en)), (W.by_ (!W.en)).wish, ?_⟩
  unfold b_law_3
  rw [seq_nx q11, seq_nx q12, seq_nx (s13 (K _ _ _ _) hc hx hm), seq_nx (s14 (K _ _ _ _)), seq_nx (s15 (K _ _ _ _)), seq_nx (s16 (K _ _ _ _)), seq_nx (s17 (K _ _ _ _) n14)]
  have r18 : t_law_18 (LB ns i m X oe os (.val W.kd) (.val W.tm) (.val W.sh) (.val W.ib) (.val W.wd) (.val (.int k)) (.val W.wish) (.val (.bl (u5 W))) c15 c16 c17) = .nx (LB ns i m X oe os (.val W.kd) (.val W.tm) (.val W.sh) (.val W.ib) (.val W.wd) (.val (.int k)) (.val W.wish) (.val (.bl W.uw)) c15 c16 c17) := s18 (K _ _ _ _) rfl rfl
  have r19 : t_law_19 (LB ns i m X oe os (.val W.kd) (.val W.tm) (.val W.sh) (.val W.ib) (.val W.wd) (.val (.int k)) (.val W.wish) (.val (.bl W.uw)) c15 c16 c17) = .nx (LB ns i m X oe os (.val W.kd) (.val W.tm) (.val W.sh) (.val W.ib) (.val W.wd) (.val (.int k)) (.val W.wish) (.val (.bl W.uw)) (.val (.bl W.wb)) c16 c17) := s19 (K _ _ _ _) n15
  have r20 : t_law_20 (LB ns i m X oe os (.val W.kd) (.val W.tm) (.val W.sh) (.val W.ib) (.val W.wd) (.val (.int k)) (.val W.wish) (.val (.bl W.uw)) (.val (.bl W.wb)) c16 c17) = .nx (LB ns i m X oe os (.val W.kd) (.val W.tm) (.val W.sh) (.val W.ib) (.val W.wd) (.val (.int k)) (.val W.wish) (.val (.bl W.uw)) (.val (.bl W.wb)) c16 c17) := s20 (K _ _ _ _) rfl rfl
  have r22 : t_law_22 (LB ns i m X oe os (.val W.kd) (.val W.tm) (.val W.sh) (.val W.ib) (.val W.wd) (.val (.int k)) (.val W.wish) (.val (.bl W.uw)) (.val (.bl W.wb)) c16 c17) = .nx (LB ns i m X oe os (.val W.kd) (.val W.tm) (.val W.sh) (.val W.ib) (.val W.wd) (.val (.int k)) (.val W.wish) (.val (.bl W.uw)) (.val (.bl W.wb)) (.val (.str (wE (!W.en)))) c17) := s22 (K _ _ _ _) n16
  have r23 : t_law_23 (LB ns i m X oe os (.val W.kd) (.val W.tm) (.val W.sh) (.val W.ib) (.val W.wd) (.val (.int k)) (.val W.wish) (.val (.bl W.uw)) (.val (.bl W.wb)) (.val (.str (wE (!W.en)))) c17) = .nx (LB ns i m X oe os (.val W.kd) (.val W.tm) (.val W.sh) (.val W.ib) (.val W.wd) (.val (.int k)) (.val W.wish) (.val (.bl W.uw)) (.val (.bl W.wb)) (.val (.str (wE (!W.en)))) (.val (W.by_ (!W.en)).wish)) := s23 (K _ _ _ _) rfl n17
  have K' := K (.val (.bl W.uw)) (.val (.bl W.wb)) (.val (.str (wE (!W.en)))) (.val (W.by_ (!W.en)).wish)
  show sSeq t_law_18 _ (LB ns i m X oe os (.val W.kd) (.val W.tm) (.val W.sh) (.val W.ib) (.val W.wd) (.val (.int k)) (.val W.wish) (.val (.bl (u5 W))) c15 c16 c17) = _
  rw [seq_nx r18, seq_nx r19, seq_nx r20, seq_nx (s21 (K _ _ _ _) he hs), seq_nx r22, seq_nx r23, seq_nx (s24 K' rfl rfl), seq_nx (s25 K'), seq_nx (s26 K'), seq_nx (s27 K')]
  exact s28 K'
end
end Spk
namespace Spk
open PySem PySem.Spec PyProof.Rows L2
section
variable {ns : List Int} {i : Nat} {c2 c3 c4 c5 c6 c7 c8 c9 c10 c11 c12 c13 c14 c15 c16 c17 c18 : Cell} {m : Mu} {X : List Wd} {W : Wd} {oe os : D}
/-- the second loop -/
def QB (ns : List Int) (i : Nat) (m : Mu) (X : List Wd) (oe os : D) (ρ : PEnv) : Prop := ∃ c5 c6 c7 c8 c9 c12 c13 c14 c15 c16 c17 : Cell, ρ = LB ns i m X oe os c5 c6 c7 c8 c9 c12 c13 c14 c15 c16 c17 ∧ NB c5 ∧ NB c6 ∧ NB c7 ∧ NB c8 ∧ NB c9 ∧ NB c12 ∧ NB c13 ∧ NB c14 ∧ NB c15 ∧ NB c16 ∧ NB c17
theorem t29 {ρ : PEnv} (hx : X.Nodup) (hl : X.length = 16) (he : inD oe (.tup EvT) = some (.bl true)) (hs : inD os (.tup EvT) = some (.bl false)) (h : QB ns i m X oe os ρ) : ∃ ρ', t_law_29 ρ = .nx ρ' ∧ QB ns i m X oe os ρ' := by
  obtain ⟨ρ', lp, q⟩ := loop_c (g := gSet 12) (body := b_law_3) (fun d => ∃ k : Nat, k < 16 ∧ d = .int k) (QB ns i m X oe os) (by
    rintro d ρ ⟨k, hk, rfl⟩ ⟨c5, c6, c7, c8, c9, c12, c13, c14, c15, c16, c17, rfl, n5, n6, n7, n8, n9, n12, n13, n14, n15, n16, n17⟩
    obtain ⟨d5, d6, d7, d8, d9, d13, d14, d15, d16, d17, q⟩ := turn_b (ns := ns) (i := i) (m := m) hx hl hk he hs n5 n6 n7 n8 n9 n13 n14 n15 n16 n17
    refine ⟨LB ns i m X oe os c5 c6 c7 c8 c9 (.val (.int k)) c13 c14 c15 c16 c17, _, ?_, q, _, _, _, _, _, _, _, _, _, _, _, rfl, rfl, rfl, rfl, rfl, rfl, rfl, rfl, rfl, rfl, rfl, rfl⟩
    unfold gSet
    rw [if_pos (show notBor (LB ns i m X oe os c5 c6 c7 c8 c9 c12 c13 c14 c15 c16 c17) 12 = true by rw [notBor_eq]; exact n12)]; rfl) (rngD 0 16) ρ (fun d hd => by
      obtain ⟨j, hj, rfl⟩ := rngD_mem hd
      exact ⟨j, hj, rfl⟩) h
  obtain ⟨c5, c6, c7, c8, c9, c12, c13, c14, c15, c16, c17, rfl, _⟩ := h
  have e : eOp (op1 lenD) [(.ex (eVar 4))] (LB ns i m X oe os c5 c6 c7 c8 c9 c12 c13 c14 c15 c16 c17) = .ok (.int 16) (LB ns i m X oe os c5 c6 c7 c8 c9 c12 c13 c14 c15 c16 c17) :=
    eop1_ok (f := eVar 4) rfl (by show some (D.int ((X.map Wd.wish).length : Int)) = _; rw [List.length_map, hl]; rfl)
  have it := rng1_ok e (by decide) (by decide)
  refine ⟨ρ', ?_, q⟩
  unfold t_law_29
  rw [frz34 (a := .lst (X.map Wd.wish)) (b := .lst (X.map Wd.row)) rfl rfl]
  exact for_ok it lp
theorem mM1 (ρ : PEnv) : eMk 5 fn_Moments_init "Moments" [(.bl false), (.str "one"), (.str "half")] [(.ex (eC (.str "one")))] ρ = .ok (Wd.m 3 0 false false).wish ρ := by
  have m := mk_vals (n := 5) (fn := fn_Moments_init) (c := "Moments") (ds := [.str "one"]) (dfl := [.bl false, .str "one", .str "half"]) rfl (mi_ok (w := .str "one") (a := .bl false) (tM_in 3) (sM_in 0) (wE_in false)) ρ
  unfold eMk
  rw [evs1 (f := eC (.str "one")) (a := .str "one") (ρ := ρ) rfl, Rs.bind_ok]
  exact congrArg Rs.nx m
theorem mM2 (ρ : PEnv) : eMk 5 fn_Moments_init "Moments" [(.bl false), (.str "one"), (.str "half")] [(.ex (eC (.str "all")))] ρ = .ok (Wd.m 2 0 false false).wish ρ := by
  have m := mk_vals (n := 5) (fn := fn_Moments_init) (c := "Moments") (ds := [.str "all"]) (dfl := [.bl false, .str "one", .str "half"]) rfl (mi_ok (w := .str "all") (a := .bl false) (tM_in 2) (sM_in 0) (wE_in false)) ρ
  unfold eMk
  rw [evs1 (f := eC (.str "all")) (a := .str "all") (ρ := ρ) rfl, Rs.bind_ok]
  exact congrArg Rs.nx m
theorem mA1 (ρ : PEnv) : eMk 3 fn_Answer_init "Answer" [(.str "half")] [(.ex (eC (.str "busy")))] ρ = .ok (Wd.a 0 false).wish ρ := ans_made (tA_in 0) ρ
theorem mN1 (ρ : PEnv) : eMk 3 fn_Number_init "Number" [(.str "half")] [(.ex (eC (.str "all")))] ρ = .ok (Wd.n 0 false).wish ρ := num_made (tN_in 0) ρ
theorem mMK (ρ : PEnv) : eMkKN 5 fn_Moments_init "Moments" 1 3 (fun as bs => as ++ bs) [(.ex (eC (.str "one")))] [(.ex (eC (.bl false))), (.ex (eC (.str "one"))), (.ex (eC (.str "half")))] ρ = .ok (Wd.m 3 0 false false).wish ρ :=
  kxN (as := [.val (.str "one")]) (bs := [.val (.bl false), .val (.str "one"), .val (.str "half")]) (evs1 rfl) (evs3 rfl rfl rfl) ⟨rfl, rfl⟩ (mom_mk 3 0 false false ρ)
theorem ne1 (W : Wd) (c : Str) (fn : List Cell → Rs D) (y : D) (b : Bool) (hc : isIns c W.wish = true) (hf : W.eqF = fn) (h : EqAns W y b) : ownNe c ES fn W.wish y = some (.bl (!b)) := one_y hc h.1 (hf ▸ h.2)
theorem eq1 (W : Wd) (c : Str) (fn : List Cell → Rs D) (y : D) (b : Bool) (hc : isIns c W.wish = true) (hf : W.eqF = fn) (h : EqAns W y b) : ownEq c ES fn W.wish y = some (.bl b) := oeq_y hc h.1 (hf ▸ h.2)
theorem half_ne : neD (.str "half") (.str "half") = some (.bl false) := isF_eq (by decide +kernel)
theorem t30 : t_law_30 (LB ns i m X oe os c5 c6 c7 c8 c9 c12 c13 c14 c15 c16 c17) = .nx (LB ns i m X oe os c5 c6 c7 c8 c9 c12 c13 c14 c15 c16 c17) := by
  unfold t_law_30
  rw [frz34 (a := .lst (X.map Wd.wish)) (b := .lst (X.map Wd.row)) rfl rfl]
  generalize LB ns i m X oe os c5 c6 c7 c8 c9 c12 c13 c14 c15 c16 c17 = ρ
  have a := ne1 (.m 3 0 false false) "Moments" fn_Moments_eq (Wd.m 3 0 false false).wish true (isM _ _ _ _) rfl (ans_ww (.m 3 0 false false) (.m 3 0 false false))
  exact if_noS (orF (bb_ok (eop2_ok (mM1 ρ) (mMK ρ) a)) (bb_ok (eop2_ok (fld_ok (mA1 ρ) (f_ends (.a 0 false))) rfl half_ne)))
theorem t31 : t_law_31 (LB ns i m X oe os c5 c6 c7 c8 c9 c12 c13 c14 c15 c16 c17) = .nx (LB ns i m X oe os c5 c6 c7 c8 c9 c12 c13 c14 c15 c16 c17) := by
  unfold t_law_31
  rw [frz34 (a := .lst (X.map Wd.wish)) (b := .lst (X.map Wd.row)) rfl rfl]
  generalize LB ns i m X oe os c5 c6 c7 c8 c9 c12 c13 c14 c15 c16 c17 = ρ
  have a := eq1 (.a 0 false) "Answer" fn_Answer_eq (Wd.n 0 false).wish false (isA _ _) rfl (ans_ww (.a 0 false) (.n 0 false))
  have b := eq1 (.m 2 0 false false) "Moments" fn_Moments_eq (Wd.n 0 false).wish false (isM _ _ _ _) rfl (ans_ww (.m 2 0 false false) (.n 0 false))
  exact if_noS (orF (bb_ok (eop2_ok (fld_ok (mN1 ρ) (f_ends (.n 0 false))) rfl half_ne)) (orF (bb_ok (eop2_ok (mA1 ρ) (mN1 ρ) a)) (bb_ok (eop2_ok (mM2 ρ) (mN1 ρ) b))))
/-- the cells as a turn leaves them -/
def St (ns : List Int) (ρ : PEnv) : Prop := ∃ c1 c2 c3 c4 c5 c6 c7 c8 c9 c10 c11 c12 c13 c14 c15 c16 c17 : Cell, ρ = [.val (.scr ns), c1, c2, c3, c4, c5, c6, c7, c8, c9, c10, c11, c12, c13, c14, c15, c16, c17, .no] ∧ NB c1 ∧ NB c2 ∧ NB c3 ∧ NB c4 ∧ NB c5 ∧ NB c6 ∧ NB c7 ∧ NB c8 ∧ NB c9 ∧ NB c10 ∧ NB c11 ∧ NB c12 ∧ NB c13 ∧ NB c14 ∧ NB c15 ∧ NB c16 ∧ NB c17
theorem turn_ok {k : Nat} {ρ : PEnv} (hn : ns.length ≤ 63) (hk : k ≤ 63) (h : St ns ρ) : ∃ ρ1 ρ2, gSet 1 (.int k) ρ = some ρ1 ∧ b_law_4 ρ1 = .nx ρ2 ∧ St ns ρ2 := by
  obtain ⟨c1, c2, c3, c4, c5, c6, c7, c8, c9, c10, c11, c12, c13, c14, c15, c16, c17, rfl, n1, n2, n3, n4, n5, n6, n7, n8, n9, n10, n11, n12, n13, n14, n15, n16, n17⟩ := h
  have g : gSet 1 (.int k) [.val (.scr ns), c1, c2, c3, c4, c5, c6, c7, c8, c9, c10, c11, c12, c13, c14, c15, c16, c17, .no] = some (LE ns k c2 c3 c4 c5 c6 c7 c8 c9 c10 c11 c12 c13 c14 c15 c16 c17 .no) := by
    unfold gSet
    rw [if_pos (show notBor [.val (.scr ns), c1, c2, c3, c4, c5, c6, c7, c8, c9, c10, c11, c12, c13, c14, c15, c16, c17, .no] 1 = true by rw [notBor_eq]; exact n1)]; rfl
  obtain ⟨bs, bg, b0⟩ := bag_ok hk hn
  have e1 : eCall 2 fn_l_bag [] [(.ex (eVar 0)), (.ex (eVar 1))] (LE ns k c2 c3 c4 c5 c6 c7 c8 c9 c10 c11 c12 c13 c14 c15 c16 c17 .no) = .ok bs (LE ns k c2 c3 c4 c5 c6 c7 c8 c9 c10 c11 c12 c13 c14 c15 c16 c17 .no) := by
    unfold LE
    simp [fnN, fnB, fnBF, sSeq, sRet, sRetF, sRetN, sIf, sSet, sNil, sExpr, sOwn, sPar, sAsg, sMut, sApp, sPut, eVar, eC, eOp, eCall, eAnd, eOr, eNot, eIf, eTup, eFr, fLst, Opd.ev, evs, Arg.dat, dats, vals?, op1, op2, appF, cells, Arg.cell, sls, wb, finC, eChain, bAnd, bOr, bNot, bBl, bTru, truth, lt_ii, le_ii, gt_ii, ge_ii, neg_i, add_ii, sub_ii, max_ii, min_ii, add_ll, add_tt, sizeLine_eq, gTupD, gsCons, gsNil, gSet, notBor_eq, nbO_val, nbO_no, nbO_own, nbO_oc, ix_l, ix_t, Cell.mu?, Cell.lst?, Mu.lst?, len_l, len_t, eIsi, isi_pr, isiD, tyS, List.lookup, gTup_pr, ix_pr0, ix_pr1, at2_0, at2_1, D.fit, D.pure, pures, D.py, pys, PyData.depth, PyData.depthAll, at3_0, at3_1, at3_2, set3_0, set3_1, set3_2, set2_0, set2_1, eq_ii, ne_ii, eq_ss, ne_ss, eq_bb, ne_bb, int_i, abs_i, Cell.put, putAt, len_scr, isN_int, isN_non, oc_mu, oc_noX, nbO_oc, sTry, trS, exS, Sr.out, dropX, noExn, Cell.noX, eXf, eXis, sRaiseB, eMethN, eMethX, noKey, isIns, eConI, eMkKN, eMkKX, eMkX, eMk, eFld, fldD, sFor, fSeq, seqD, eSFld, sFldS, putK, pow6, pow15, pow18, pow20, pow30, pow31, eOpX, eOpN, gSqD, sParF, sParE, eCallK, sIns, eJs, joinE, FPart.ev, fmtD, eJoin, gPl, gNil, gSeq, gYield, gFor, fMethN, fMethX, onlyX, eMethKX, eMethKN, eCallKPX, eCallKPN, fMethFX, fMethKX, fMethKN, bg]
  have s1 : t_law_1 (LE ns k c2 c3 c4 c5 c6 c7 c8 c9 c10 c11 c12 c13 c14 c15 c16 c17 .no) = .nx (LE ns k (.own (.lst bs)) c3 c4 c5 c6 c7 c8 c9 c10 c11 c12 c13 c14 c15 c16 c17 .no) := by
    unfold t_law_1
    exact own_set (i := 2) e1 n2
  have s2 : t_law_2 (LE ns k (.own (.lst bs)) c3 c4 c5 c6 c7 c8 c9 c10 c11 c12 c13 c14 c15 c16 c17 .no) = .nx (LE ns k (.own (.lst bs)) (.own (.lst [])) (.own (.lst [])) c5 c6 c7 c8 c9 c10 c11 c12 c13 c14 c15 c16 c17 .no) := by
    unfold t_law_2 sParFF
    have l : ∀ ρ, fLst [] ρ = .ok [] ρ := fun ρ => by simp [fnN, fnB, fnBF, sSeq, sRet, sRetF, sRetN, sIf, sSet, sNil, sExpr, sOwn, sPar, sAsg, sMut, sApp, sPut, eVar, eC, eOp, eCall, eAnd, eOr, eNot, eIf, eTup, eFr, fLst, Opd.ev, evs, Arg.dat, dats, vals?, op1, op2, appF, cells, Arg.cell, sls, wb, finC, eChain, bAnd, bOr, bNot, bBl, bTru, truth, lt_ii, le_ii, gt_ii, ge_ii, neg_i, add_ii, sub_ii, max_ii, min_ii, add_ll, add_tt, sizeLine_eq, gTupD, gsCons, gsNil, gSet, notBor_eq, nbO_val, nbO_no, nbO_own, nbO_oc, ix_l, ix_t, Cell.mu?, Cell.lst?, Mu.lst?, len_l, len_t, eIsi, isi_pr, isiD, tyS, List.lookup, gTup_pr, ix_pr0, ix_pr1, at2_0, at2_1, D.fit, D.pure, pures, D.py, pys, PyData.depth, PyData.depthAll, at3_0, at3_1, at3_2, set3_0, set3_1, set3_2, set2_0, set2_1, eq_ii, ne_ii, eq_ss, ne_ss, eq_bb, ne_bb, int_i, abs_i, Cell.put, putAt, len_scr, isN_int, isN_non, oc_mu, oc_noX, nbO_oc, sTry, trS, exS, Sr.out, dropX, noExn, Cell.noX, eXf, eXis, sRaiseB, eMethN, eMethX, noKey, isIns, eConI, eMkKN, eMkKX, eMkX, eMk, eFld, fldD, sFor, fSeq, seqD, eSFld, sFldS, putK, pow6, pow15, pow18, pow20, pow30, pow31, eOpX, eOpN, gSqD, sParF, sParE, eCallK, sIns, eJs, joinE, FPart.ev, fmtD, eJoin, gPl, gNil, gSeq, gYield, gFor, fMethN, fMethX, onlyX, eMethKX, eMethKN, eCallKPX, eCallKPN, fMethFX, fMethKX, fMethKN, fLst]
    rw [l]
    show Sr.of (fLst [] _) _ = _
    rw [l]
    show (if _ then _ else _) = _
    rw [if_pos ⟨by rw [notBor_eq]; exact n3, by rw [notBor_eq]; exact n4⟩]; rfl
  obtain ⟨Y, m1, kk, d6, d7, d8, d9, s9, sk, b1, x6, x7, x8, x9⟩ := built (ns := ns) (i := k) (c10 := c10) (c11 := c11) (c12 := c12) (c13 := c13) (c14 := c14) (c15 := c15) (c16 := c16) (c17 := c17) (c18 := .no) b0 n5 n6 n7 n8 n9
  obtain ⟨nd, ln⟩ := skel_nd sk
  obtain ⟨oe, os, m2, s10, he, hs, b2⟩ := t10 (ns := ns) (i := k) (X := Y) (c5 := .val kk) (c6 := d6) (c7 := d7) (c8 := d8) (c9 := d9) (c12 := c12) (c13 := c13) (c14 := c14) (c15 := c15) (c16 := c16) (c17 := c17) (c18 := .no) b1 n10 n11
  obtain ⟨ρ', s29, e5, e6, e7, e8, e9, e12, e13, e14, e15, e16, e17, rfl, y5, y6, y7, y8, y9, y12, y13, y14, y15, y16, y17⟩ := t29 (ns := ns) (i := k) (m := m2) nd ln he hs ⟨.val kk, d6, d7, d8, d9, c12, c13, c14, c15, c16, c17, rfl, rfl, x6, x7, x8, x9, n12, n13, n14, n15, n16, n17⟩
  refine ⟨_, _, g, ?_, .val (.int k), .own m2, .val (.lst (Y.map Wd.row)), .val (.lst (Y.map Wd.wish)), e5, e6, e7, e8, e9, .val (lpD oe), .val (lpD os), e12, e13, e14, e15, e16, e17, rfl, rfl, rfl, rfl, rfl, y5, y6, y7, y8, y9, rfl, rfl, y12, y13, y14, y15, y16, y17⟩
  unfold b_law_4
  unfold LA at s9
  rw [seq_nx s1, seq_nx s2, seq_nx s9, seq_nx s10]
  show sSeq t_law_29 _ (LB ns k m2 Y oe os (.val kk) d6 d7 d8 d9 c12 c13 c14 c15 c16 c17) = _
  rw [seq_nx s29, seq_nx t30]
  exact t31
end
theorem law_run (ns : List Int) (hn : ns.length ≤ 63) : ∃ es, fn_law [.val (.scr ns)] = .ok (.bl true) es := by
  obtain ⟨k, hk, it⟩ : ∃ k : Nat, k ≤ 63 ∧ fRng1 (eOp (op2 maxD) [(.ex (eC (.int 1))), (.ex (eOp (op2 minD) [(.ex (eC (.int 4))), (.ex (eOp (op1 lenD) [(.ex (eVar 0))]))]))]) [.val (.scr ns), .no, .no, .no, .no, .no, .no, .no, .no, .no, .no, .no, .no, .no, .no, .no, .no, .no, .no] = .ok (rngD 0 k) [.val (.scr ns), .no, .no, .no, .no, .no, .no, .no, .no, .no, .no, .no, .no, .no, .no, .no, .no, .no, .no] := by
    have e : eOp (op2 maxD) [(.ex (eC (.int 1))), (.ex (eOp (op2 minD) [(.ex (eC (.int 4))), (.ex (eOp (op1 lenD) [(.ex (eVar 0))]))]))] [.val (.scr ns), .no, .no, .no, .no, .no, .no, .no, .no, .no, .no, .no, .no, .no, .no, .no, .no, .no, .no] = .ok (.int (max 1 (min 4 (ns.length : Int)))) [.val (.scr ns), .no, .no, .no, .no, .no, .no, .no, .no, .no, .no, .no, .no, .no, .no, .no, .no, .no, .no] := by
      simp [fnN, fnB, fnBF, sSeq, sRet, sRetF, sRetN, sIf, sSet, sNil, sExpr, sOwn, sPar, sAsg, sMut, sApp, sPut, eVar, eC, eOp, eCall, eAnd, eOr, eNot, eIf, eTup, eFr, fLst, Opd.ev, evs, Arg.dat, dats, vals?, op1, op2, appF, cells, Arg.cell, sls, wb, finC, eChain, bAnd, bOr, bNot, bBl, bTru, truth, lt_ii, le_ii, gt_ii, ge_ii, neg_i, add_ii, sub_ii, max_ii, min_ii, add_ll, add_tt, sizeLine_eq, gTupD, gsCons, gsNil, gSet, notBor_eq, nbO_val, nbO_no, nbO_own, nbO_oc, ix_l, ix_t, Cell.mu?, Cell.lst?, Mu.lst?, len_l, len_t, eIsi, isi_pr, isiD, tyS, List.lookup, gTup_pr, ix_pr0, ix_pr1, at2_0, at2_1, D.fit, D.pure, pures, D.py, pys, PyData.depth, PyData.depthAll, at3_0, at3_1, at3_2, set3_0, set3_1, set3_2, set2_0, set2_1, eq_ii, ne_ii, eq_ss, ne_ss, eq_bb, ne_bb, int_i, abs_i, Cell.put, putAt, len_scr, isN_int, isN_non, oc_mu, oc_noX, nbO_oc, sTry, trS, exS, Sr.out, dropX, noExn, Cell.noX, eXf, eXis, sRaiseB, eMethN, eMethX, noKey, isIns, eConI, eMkKN, eMkKX, eMkX, eMk, eFld, fldD, sFor, fSeq, seqD, eSFld, sFldS, putK, pow6, pow15, pow18, pow20, pow30, pow31, eOpX, eOpN, gSqD, sParF, sParE, eCallK, sIns, eJs, joinE, FPart.ev, fmtD, eJoin, gPl, gNil, gSeq, gYield, gFor, fMethN, fMethX, onlyX, eMethKX, eMethKN, eCallKPX, eCallKPN, fMethFX, fMethKX, fMethKN]
      split <;> split <;> omega
    exact ⟨(max 1 (min 4 (ns.length : Int))).toNat, by omega, rng1_ok e (by omega) (by omega)⟩
  obtain ⟨ρ', lp, c1, c2, c3, c4, c5, c6, c7, c8, c9, c10, c11, c12, c13, c14, c15, c16, c17, rfl, _⟩ := loop_c (g := gSet 1) (body := b_law_4) (fun d => ∃ k : Nat, k ≤ 63 ∧ d = .int k) (St ns) (by
    rintro d ρ ⟨k, hk, rfl⟩ hρ
    exact turn_ok hn hk hρ) (rngD 0 k) [.val (.scr ns), .no, .no, .no, .no, .no, .no, .no, .no, .no, .no, .no, .no, .no, .no, .no, .no, .no, .no] (fun d hd => by
      obtain ⟨j, hj, rfl⟩ := rngD_mem hd
      exact ⟨j, by omega, rfl⟩) ⟨.no, .no, .no, .no, .no, .no, .no, .no, .no, .no, .no, .no, .no, .no, .no, .no, .no, rfl, rfl, rfl, rfl, rfl, rfl, rfl, rfl, rfl, rfl, rfl, rfl, rfl, rfl, rfl, rfl, rfl, rfl⟩
  have s32 : t_law_32 [.val (.scr ns), .no, .no, .no, .no, .no, .no, .no, .no, .no, .no, .no, .no, .no, .no, .no, .no, .no, .no] = .nx [.val (.scr ns), c1, c2, c3, c4, c5, c6, c7, c8, c9, c10, c11, c12, c13, c14, c15, c16, c17, .no] := for_ok it lp
  refine ⟨_, fn_rt (ρ := [.val (.scr ns), c1, c2, c3, c4, c5, c6, c7, c8, c9, c10, c11, c12, c13, c14, c15, c16, c17, .no]) ?_ rfl⟩
  show sem_law [.val (.scr ns), .no, .no, .no, .no, .no, .no, .no, .no, .no, .no, .no, .no, .no, .no, .no, .no, .no, .no] = _
  unfold sem_law
  rw [seq_nx s32]
  rfl
end Spk
namespace Spk
open PySem PySem.Spec PyProof.Rows L2
section
theorem all_mk {l : PySem.W.OpenLaw} {w : World} {K : PySem.W.Frag} {h : Heap} {mg : Str → Option Value} {fa : Addr} {t_FIRST : Tok} {t_LAST : Tok} {t_FAR : Tok} {CE : Addr} {tE1 tE2 : Tok} {C_BadOrder fI_BadOrder NS_BadOrder : Addr} {nm_BadOrder qn_BadOrder : Str} {bs_BadOrder sub_BadOrder : List Value} {sn_BadOrder : List Str} {ab_BadOrder : Bool} {col_BadOrder : Option Bool} {dd_BadOrder : Option Addr} {m0_BadOrder m1_BadOrder m2_BadOrder m3_BadOrder m5_BadOrder : Option Value} {iod_BadOrder ian_BadOrder : Option Addr} {isl_BadOrder : Array (Option Value)} {ioc_BadOrder ikV_BadOrder idc_BadOrder ipm_BadOrder icd_BadOrder ict_BadOrder : Value} {C_TooMany fI_TooMany NS_TooMany : Addr} {nm_TooMany qn_TooMany : Str} {bs_TooMany sub_TooMany : List Value} {sn_TooMany : List Str} {ab_TooMany : Bool} {col_TooMany : Option Bool} {dd_TooMany : Option Addr} {m0_TooMany m1_TooMany m2_TooMany m3_TooMany m5_TooMany : Option Value} {iod_TooMany ian_TooMany : Option Addr} {isl_TooMany : Array (Option Value)} {ioc_TooMany ikV_TooMany idc_TooMany ipm_TooMany icd_TooMany ict_TooMany : Value} {C_BadWish fI_BadWish NS_BadWish : Addr} {nm_BadWish qn_BadWish : Str} {bs_BadWish sub_BadWish : List Value} {sn_BadWish : List Str} {ab_BadWish : Bool} {col_BadWish : Option Bool} {dd_BadWish : Option Addr} {m0_BadWish m1_BadWish m2_BadWish m3_BadWish m5_BadWish : Option Value} {iod_BadWish ian_BadWish : Option Addr} {isl_BadWish : Array (Option Value)} {ioc_BadWish ikV_BadWish idc_BadWish ipm_BadWish icd_BadWish ict_BadWish : Value} {C_BadEnds fI_BadEnds NS_BadEnds : Addr} {nm_BadEnds qn_BadEnds : Str} {bs_BadEnds sub_BadEnds : List Value} {sn_BadEnds : List Str} {ab_BadEnds : Bool} {col_BadEnds : Option Bool} {dd_BadEnds : Option Addr} {m0_BadEnds m1_BadEnds m2_BadEnds m3_BadEnds m5_BadEnds : Option Value} {iod_BadEnds ian_BadEnds : Option Addr} {isl_BadEnds : Array (Option Value)} {ioc_BadEnds ikV_BadEnds idc_BadEnds ipm_BadEnds icd_BadEnds ict_BadEnds : Value} {A_Moments : Addr} {A_Answer : Addr} {A_Number : Addr} {A_Loop : Addr} {A_Wish : Addr} {f_l_bag : Addr} {od_l_bag an_l_bag : Option Addr} {sl_l_bag : Array (Option Value)} {oc_l_bag kV_l_bag dc_l_bag pm_l_bag cd_l_bag ct_l_bag : Value} {f_l_terms : Addr} {od_l_terms an_l_terms : Option Addr} {sl_l_terms : Array (Option Value)} {oc_l_terms kV_l_terms dc_l_terms pm_l_terms cd_l_terms ct_l_terms : Value} {f_check_order : Addr} {od_check_order an_check_order : Option Addr} {sl_check_order : Array (Option Value)} {oc_check_order kV_check_order dc_check_order pm_check_order cd_check_order ct_check_order : Value} {f_check_rules : Addr} {od_check_rules an_check_rules : Option Addr} {sl_check_rules : Array (Option Value)} {oc_check_rules kV_check_rules dc_check_rules pm_check_rules cd_check_rules ct_check_rules : Value} {f_Loop_init : Addr} {od_Loop_init an_Loop_init : Option Addr} {sl_Loop_init : Array (Option Value)} {oc_Loop_init dc_Loop_init pm_Loop_init cd_Loop_init ct_Loop_init : Value} {D_Loop_init : Addr} {ea0_Loop_init : Addr} {eo_Loop_init_ahead : Obj} {en_Loop_init_ahead : Nat} {ea1_Loop_init : Addr} {eo_Loop_init_each : Obj} {en_Loop_init_each : Nat} {ea2_Loop_init : Addr} {eo_Loop_init_behind : Obj} {en_Loop_init_behind : Nat} {f_check_word : Addr} {od_check_word an_check_word : Option Addr} {sl_check_word : Array (Option Value)} {oc_check_word kV_check_word dc_check_word pm_check_word cd_check_word ct_check_word : Value} {f_check_ends : Addr} {od_check_ends an_check_ends : Option Addr} {sl_check_ends : Array (Option Value)} {oc_check_ends kV_check_ends dc_check_ends pm_check_ends cd_check_ends ct_check_ends : Value} {f_Moments_init : Addr} {od_Moments_init an_Moments_init : Option Addr} {sl_Moments_init : Array (Option Value)} {oc_Moments_init dc_Moments_init pm_Moments_init cd_Moments_init ct_Moments_init : Value} {D_Moments_init : Addr} {u1_Moments_init u2_Moments_init : Tok} {f_Moments_by : Addr} {od_Moments_by an_Moments_by : Option Addr} {sl_Moments_by : Array (Option Value)} {oc_Moments_by kV_Moments_by dc_Moments_by pm_Moments_by cd_Moments_by ct_Moments_by : Value} {f_Answer_init : Addr} {od_Answer_init an_Answer_init : Option Addr} {sl_Answer_init : Array (Option Value)} {oc_Answer_init dc_Answer_init pm_Answer_init cd_Answer_init ct_Answer_init : Value} {D_Answer_init : Addr} {u0_Answer_init : Tok} {f_Answer_by : Addr} {od_Answer_by an_Answer_by : Option Addr} {sl_Answer_by : Array (Option Value)} {oc_Answer_by kV_Answer_by dc_Answer_by pm_Answer_by cd_Answer_by ct_Answer_by : Value} {f_Number_init : Addr} {od_Number_init an_Number_init : Option Addr} {sl_Number_init : Array (Option Value)} {oc_Number_init dc_Number_init pm_Number_init cd_Number_init ct_Number_init : Value} {D_Number_init : Addr} {u0_Number_init : Tok} {f_Number_by : Addr} {od_Number_by an_Number_by : Option Addr} {sl_Number_by : Array (Option Value)} {oc_Number_by kV_Number_by dc_Number_by pm_Number_by cd_Number_by ct_Number_by : Value} {f_l_take : Addr} {od_l_take an_l_take : Option Addr} {sl_l_take : Array (Option Value)} {oc_l_take kV_l_take dc_l_take pm_l_take cd_l_take ct_l_take : Value} {f_l_of : Addr} {od_l_of an_l_of : Option Addr} {sl_l_of : Array (Option Value)} {oc_l_of kV_l_of dc_l_of pm_l_of cd_l_of ct_l_of : Value} {f_l_wish : Addr} {od_l_wish an_l_wish : Option Addr} {sl_l_wish : Array (Option Value)} {oc_l_wish kV_l_wish dc_l_wish pm_l_wish cd_l_wish ct_l_wish : Value} {f_l_orders : Addr} {od_l_orders an_l_orders : Option Addr} {sl_l_orders : Array (Option Value)} {oc_l_orders kV_l_orders dc_l_orders pm_l_orders cd_l_orders ct_l_orders : Value} {f_Moments_uses_window : Addr} {od_Moments_uses_window an_Moments_uses_window : Option Addr} {sl_Moments_uses_window : Array (Option Value)} {oc_Moments_uses_window kV_Moments_uses_window dc_Moments_uses_window pm_Moments_uses_window cd_Moments_uses_window ct_Moments_uses_window : Value} {P_Moments_uses_window : Addr} {rest_Moments_uses_window : List Value} {f_Answer_uses_window : Addr} {od_Answer_uses_window an_Answer_uses_window : Option Addr} {sl_Answer_uses_window : Array (Option Value)} {oc_Answer_uses_window kV_Answer_uses_window dc_Answer_uses_window pm_Answer_uses_window cd_Answer_uses_window ct_Answer_uses_window : Value} {P_Answer_uses_window : Addr} {rest_Answer_uses_window : List Value} {f_Number_uses_window : Addr} {od_Number_uses_window an_Number_uses_window : Option Addr} {sl_Number_uses_window : Array (Option Value)} {oc_Number_uses_window kV_Number_uses_window dc_Number_uses_window pm_Number_uses_window cd_Number_uses_window ct_Number_uses_window : Value} {P_Number_uses_window : Addr} {rest_Number_uses_window : List Value} {f_Moments_wants_begins : Addr} {od_Moments_wants_begins an_Moments_wants_begins : Option Addr} {sl_Moments_wants_begins : Array (Option Value)} {oc_Moments_wants_begins kV_Moments_wants_begins dc_Moments_wants_begins pm_Moments_wants_begins cd_Moments_wants_begins ct_Moments_wants_begins : Value} {P_Moments_wants_begins : Addr} {rest_Moments_wants_begins : List Value} {f_Answer_wants_begins : Addr} {od_Answer_wants_begins an_Answer_wants_begins : Option Addr} {sl_Answer_wants_begins : Array (Option Value)} {oc_Answer_wants_begins kV_Answer_wants_begins dc_Answer_wants_begins pm_Answer_wants_begins cd_Answer_wants_begins ct_Answer_wants_begins : Value} {P_Answer_wants_begins : Addr} {rest_Answer_wants_begins : List Value} {f_Number_wants_begins : Addr} {od_Number_wants_begins an_Number_wants_begins : Option Addr} {sl_Number_wants_begins : Array (Option Value)} {oc_Number_wants_begins kV_Number_wants_begins dc_Number_wants_begins pm_Number_wants_begins cd_Number_wants_begins ct_Number_wants_begins : Value} {P_Number_wants_begins : Addr} {rest_Number_wants_begins : List Value} {f_reads_events : Addr} {od_reads_events an_reads_events : Option Addr} {sl_reads_events : Array (Option Value)} {oc_reads_events kV_reads_events dc_reads_events pm_reads_events cd_reads_events ct_reads_events : Value} {f_Loop_reads : Addr} {od_Loop_reads an_Loop_reads : Option Addr} {sl_Loop_reads : Array (Option Value)} {oc_Loop_reads kV_Loop_reads dc_Loop_reads pm_Loop_reads cd_Loop_reads ct_Loop_reads : Value} {P_Loop_reads : Addr} {rest_Loop_reads : List Value} {f_Moments_fits : Addr} {od_Moments_fits an_Moments_fits : Option Addr} {sl_Moments_fits : Array (Option Value)} {oc_Moments_fits kV_Moments_fits dc_Moments_fits pm_Moments_fits cd_Moments_fits ct_Moments_fits : Value} {f_Answer_fits : Addr} {od_Answer_fits an_Answer_fits : Option Addr} {sl_Answer_fits : Array (Option Value)} {oc_Answer_fits kV_Answer_fits dc_Answer_fits pm_Answer_fits cd_Answer_fits ct_Answer_fits : Value} {f_Number_fits : Addr} {od_Number_fits an_Number_fits : Option Addr} {sl_Number_fits : Array (Option Value)} {oc_Number_fits kV_Number_fits dc_Number_fits pm_Number_fits cd_Number_fits ct_Number_fits : Value} {f_Moments_eq : Addr} {od_Moments_eq an_Moments_eq : Option Addr} {sl_Moments_eq : Array (Option Value)} {oc_Moments_eq kV_Moments_eq dc_Moments_eq pm_Moments_eq cd_Moments_eq ct_Moments_eq : Value} {f_Answer_eq : Addr} {od_Answer_eq an_Answer_eq : Option Addr} {sl_Answer_eq : Array (Option Value)} {oc_Answer_eq kV_Answer_eq dc_Answer_eq pm_Answer_eq cd_Answer_eq ct_Answer_eq : Value} {f_Number_eq : Addr} {od_Number_eq an_Number_eq : Option Addr} {sl_Number_eq : Array (Option Value)} {oc_Number_eq kV_Number_eq dc_Number_eq pm_Number_eq cd_Number_eq ct_Number_eq : Value} {f_l_parts_forms : Addr} {od_l_parts_forms an_l_parts_forms : Option Addr} {sl_l_parts_forms : Array (Option Value)} {oc_l_parts_forms kV_l_parts_forms dc_l_parts_forms pm_l_parts_forms cd_l_parts_forms ct_l_parts_forms : Value} {f_law : Addr} {od_law an_law : Option Addr} {sl_law : Array (Option Value)} {oc_law kV_law dc_law pm_law cd_law ct_law : Value} {gta_EVENT_ORDERS : Addr} {gto_EVENT_ORDERS : Obj} {gti_EVENT_ORDERS : List Value} {gtn_EVENT_ORDERS : Nat} {gta_STRETCH_ORDERS : Addr} {gto_STRETCH_ORDERS : Obj} {gti_STRETCH_ORDERS : List Value} {gtn_STRETCH_ORDERS : Nat} {gta_TIMES : Addr} {gto_TIMES : Obj} {gti_TIMES : List Value} {gtn_TIMES : Nat} {gta_FORMS : Addr} {gto_FORMS : Obj} {gti_FORMS : List Value} {gtn_FORMS : Nat} {gta_ANSWERS : Addr} {gto_ANSWERS : Obj} {gti_ANSWERS : List Value} {gtn_ANSWERS : Nat} {gta_NUMBERS : Addr} {gto_NUMBERS : Obj} {gti_NUMBERS : List Value} {gtn_NUMBERS : Nat} (X : K.In h) (G : h.Ns mainGlobals mg) (hfa : mg "law" = some (.ref fa))
    (z_abs : PySem.W.nsIn K mainGlobals "abs" = some none)
    (z_any : PySem.W.nsIn K mainGlobals "any" = some none)
    (z_bool : PySem.W.nsIn K mainGlobals "bool" = some none)
    (z_enumerate : PySem.W.nsIn K mainGlobals "enumerate" = some none)
    (z_int : PySem.W.nsIn K mainGlobals "int" = some none)
    (z_isinstance : PySem.W.nsIn K mainGlobals "isinstance" = some none)
    (z_len : PySem.W.nsIn K mainGlobals "len" = some none)
    (z_max : PySem.W.nsIn K mainGlobals "max" = some none)
    (z_min : PySem.W.nsIn K mainGlobals "min" = some none)
    (z_range : PySem.W.nsIn K mainGlobals "range" = some none)
    (z_set : PySem.W.nsIn K mainGlobals "set" = some none)
    (z_sorted : PySem.W.nsIn K mainGlobals "sorted" = some none)
    (z_str : PySem.W.nsIn K mainGlobals "str" = some none)
    (z_tuple : PySem.W.nsIn K mainGlobals "tuple" = some none)
    (c_FIRST : PySem.W.nsIn K mainGlobals "FIRST" = some (some (.int (-10000000000000000000000000000000) t_FIRST)))
    (c_LAST : PySem.W.nsIn K mainGlobals "LAST" = some (some (.int (10000000000000000000000000000000) t_LAST)))
    (c_FAR : PySem.W.nsIn K mainGlobals "FAR" = some (some (.int (1000000000000000000000000000000) t_FAR)))
    (e_g : PySem.W.nsIn K mainGlobals "Ends" = some (some (.ref CE)))
    (e_rd : PySem.W.readsIn K CE (.type "type") = true)
    (e_ga : PySem.W.specialIn K (.ref CE) "__getattribute__" = some (some (.builtin "type.__getattribute__")))
    (e_1 : PySem.W.findCls K (.ref CE) (.type "type") "HALF" = some (.val (.str "half" tE1)))
    (e_2 : PySem.W.findCls K (.ref CE) (.type "type") "SHUT" = some (.val (.str "shut" tE2)))
    (eg_BadOrder : PySem.W.nsIn K mainGlobals "BadOrder" = some (some (.ref C_BadOrder)))
    (ex_BadOrder : K.lookup C_BadOrder = some (excClassObj nm_BadOrder qn_BadOrder C_BadOrder NS_BadOrder bs_BadOrder [.type "ValueError", .type "Exception", .type "BaseException", .type "object"] true sn_BadOrder sub_BadOrder ab_BadOrder col_BadOrder dd_BadOrder m0_BadOrder m1_BadOrder m2_BadOrder m3_BadOrder m5_BadOrder "ValueError.__new__"))
    (esa_BadOrder : PySem.W.findIn K (.ref C_BadOrder) "__setattr__" = some (some (.builtin "object.__setattr__")))
    (ega_BadOrder : PySem.W.findIn K (.ref C_BadOrder) "__getattribute__" = some (some (.builtin "BaseException.__getattribute__")))
    (egg_BadOrder : PySem.W.findIn K (.ref C_BadOrder) "__getattr__" = some none)
    (enf_BadOrder : PySem.W.findIn K (.ref C_BadOrder) "order" = some none)
    (ekC_BadOrder : PySem.W.keepIn K (.ref C_BadOrder) = true)
    (eeC_BadOrder : PySem.W.subIn K (.ref C_BadOrder) (.type "BaseException") = some true)
    (etC_BadOrder : PySem.W.typeIn K (.ref C_BadOrder) = some (.type "type"))
    (ehC_BadOrder : PySem.W.hasDictIn K C_BadOrder = true)
    (eiC_BadOrder : PySem.W.isClsIn K C_BadOrder = true)
    (esC_BadOrder : PySem.W.subIn K (.ref C_BadOrder) (.ref C_BadOrder) = some true)
    (eai_BadOrder : PySem.W.findIn K (.ref C_BadOrder) "__init__" = some (some (.ref fI_BadOrder)))
    (eti_BadOrder : PySem.W.typeIn K (.ref fI_BadOrder) = some (.type "function"))
    (eli_BadOrder : K.lookup fI_BadOrder = some ⟨ioc_BadOrder, iod_BadOrder, .func (PySem.W.fnOf "__init__" "BadOrder.__init__" (defArgs (inClass (topS 5) 0)) (defBody (inClass (topS 5) 0)) (defScope (inClass (topS 5) 0)) .none ikV_BadOrder idc_BadOrder ipm_BadOrder ian_BadOrder icd_BadOrder ict_BadOrder), isl_BadOrder⟩)
    (eci_BadOrder : PySem.W.codeIn K icd_BadOrder "BadOrder.__init__" = true)
    (eki_BadOrder : PySem.W.keepIn K (.ref fI_BadOrder) = true)
    (eg_TooMany : PySem.W.nsIn K mainGlobals "TooMany" = some (some (.ref C_TooMany)))
    (ex_TooMany : K.lookup C_TooMany = some (excClassObj nm_TooMany qn_TooMany C_TooMany NS_TooMany bs_TooMany [.type "OverflowError", .type "ArithmeticError", .type "Exception", .type "BaseException", .type "object"] true sn_TooMany sub_TooMany ab_TooMany col_TooMany dd_TooMany m0_TooMany m1_TooMany m2_TooMany m3_TooMany m5_TooMany "OverflowError.__new__"))
    (esa_TooMany : PySem.W.findIn K (.ref C_TooMany) "__setattr__" = some (some (.builtin "object.__setattr__")))
    (ega_TooMany : PySem.W.findIn K (.ref C_TooMany) "__getattribute__" = some (some (.builtin "BaseException.__getattribute__")))
    (egg_TooMany : PySem.W.findIn K (.ref C_TooMany) "__getattr__" = some none)
    (enf_TooMany : PySem.W.findIn K (.ref C_TooMany) "limit" = some none)
    (ekC_TooMany : PySem.W.keepIn K (.ref C_TooMany) = true)
    (eeC_TooMany : PySem.W.subIn K (.ref C_TooMany) (.type "BaseException") = some true)
    (etC_TooMany : PySem.W.typeIn K (.ref C_TooMany) = some (.type "type"))
    (ehC_TooMany : PySem.W.hasDictIn K C_TooMany = true)
    (eiC_TooMany : PySem.W.isClsIn K C_TooMany = true)
    (esC_TooMany : PySem.W.subIn K (.ref C_TooMany) (.ref C_TooMany) = some true)
    (eai_TooMany : PySem.W.findIn K (.ref C_TooMany) "__init__" = some (some (.ref fI_TooMany)))
    (eti_TooMany : PySem.W.typeIn K (.ref fI_TooMany) = some (.type "function"))
    (eli_TooMany : K.lookup fI_TooMany = some ⟨ioc_TooMany, iod_TooMany, .func (PySem.W.fnOf "__init__" "TooMany.__init__" (defArgs (inClass (topS 11) 0)) (defBody (inClass (topS 11) 0)) (defScope (inClass (topS 11) 0)) .none ikV_TooMany idc_TooMany ipm_TooMany ian_TooMany icd_TooMany ict_TooMany), isl_TooMany⟩)
    (eci_TooMany : PySem.W.codeIn K icd_TooMany "TooMany.__init__" = true)
    (eki_TooMany : PySem.W.keepIn K (.ref fI_TooMany) = true)
    (eg_BadWish : PySem.W.nsIn K mainGlobals "BadWish" = some (some (.ref C_BadWish)))
    (ex_BadWish : K.lookup C_BadWish = some (excClassObj nm_BadWish qn_BadWish C_BadWish NS_BadWish bs_BadWish [.type "ValueError", .type "Exception", .type "BaseException", .type "object"] true sn_BadWish sub_BadWish ab_BadWish col_BadWish dd_BadWish m0_BadWish m1_BadWish m2_BadWish m3_BadWish m5_BadWish "ValueError.__new__"))
    (esa_BadWish : PySem.W.findIn K (.ref C_BadWish) "__setattr__" = some (some (.builtin "object.__setattr__")))
    (ega_BadWish : PySem.W.findIn K (.ref C_BadWish) "__getattribute__" = some (some (.builtin "BaseException.__getattribute__")))
    (egg_BadWish : PySem.W.findIn K (.ref C_BadWish) "__getattr__" = some none)
    (enf_BadWish : PySem.W.findIn K (.ref C_BadWish) "word" = some none)
    (ekC_BadWish : PySem.W.keepIn K (.ref C_BadWish) = true)
    (eeC_BadWish : PySem.W.subIn K (.ref C_BadWish) (.type "BaseException") = some true)
    (etC_BadWish : PySem.W.typeIn K (.ref C_BadWish) = some (.type "type"))
    (ehC_BadWish : PySem.W.hasDictIn K C_BadWish = true)
    (eiC_BadWish : PySem.W.isClsIn K C_BadWish = true)
    (esC_BadWish : PySem.W.subIn K (.ref C_BadWish) (.ref C_BadWish) = some true)
    (eai_BadWish : PySem.W.findIn K (.ref C_BadWish) "__init__" = some (some (.ref fI_BadWish)))
    (eti_BadWish : PySem.W.typeIn K (.ref fI_BadWish) = some (.type "function"))
    (eli_BadWish : K.lookup fI_BadWish = some ⟨ioc_BadWish, iod_BadWish, .func (PySem.W.fnOf "__init__" "BadWish.__init__" (defArgs (inClass (topS 10) 0)) (defBody (inClass (topS 10) 0)) (defScope (inClass (topS 10) 0)) .none ikV_BadWish idc_BadWish ipm_BadWish ian_BadWish icd_BadWish ict_BadWish), isl_BadWish⟩)
    (eci_BadWish : PySem.W.codeIn K icd_BadWish "BadWish.__init__" = true)
    (eki_BadWish : PySem.W.keepIn K (.ref fI_BadWish) = true)
    (eg_BadEnds : PySem.W.nsIn K mainGlobals "BadEnds" = some (some (.ref C_BadEnds)))
    (ex_BadEnds : K.lookup C_BadEnds = some (excClassObj nm_BadEnds qn_BadEnds C_BadEnds NS_BadEnds bs_BadEnds [.type "ValueError", .type "Exception", .type "BaseException", .type "object"] true sn_BadEnds sub_BadEnds ab_BadEnds col_BadEnds dd_BadEnds m0_BadEnds m1_BadEnds m2_BadEnds m3_BadEnds m5_BadEnds "ValueError.__new__"))
    (esa_BadEnds : PySem.W.findIn K (.ref C_BadEnds) "__setattr__" = some (some (.builtin "object.__setattr__")))
    (ega_BadEnds : PySem.W.findIn K (.ref C_BadEnds) "__getattribute__" = some (some (.builtin "BaseException.__getattribute__")))
    (egg_BadEnds : PySem.W.findIn K (.ref C_BadEnds) "__getattr__" = some none)
    (enf_BadEnds : PySem.W.findIn K (.ref C_BadEnds) "ends" = some none)
    (ekC_BadEnds : PySem.W.keepIn K (.ref C_BadEnds) = true)
    (eeC_BadEnds : PySem.W.subIn K (.ref C_BadEnds) (.type "BaseException") = some true)
    (etC_BadEnds : PySem.W.typeIn K (.ref C_BadEnds) = some (.type "type"))
    (ehC_BadEnds : PySem.W.hasDictIn K C_BadEnds = true)
    (eiC_BadEnds : PySem.W.isClsIn K C_BadEnds = true)
    (esC_BadEnds : PySem.W.subIn K (.ref C_BadEnds) (.ref C_BadEnds) = some true)
    (eai_BadEnds : PySem.W.findIn K (.ref C_BadEnds) "__init__" = some (some (.ref fI_BadEnds)))
    (eti_BadEnds : PySem.W.typeIn K (.ref fI_BadEnds) = some (.type "function"))
    (eli_BadEnds : K.lookup fI_BadEnds = some ⟨ioc_BadEnds, iod_BadEnds, .func (PySem.W.fnOf "__init__" "BadEnds.__init__" (defArgs (inClass (topS 3) 0)) (defBody (inClass (topS 3) 0)) (defScope (inClass (topS 3) 0)) .none ikV_BadEnds idc_BadEnds ipm_BadEnds ian_BadEnds icd_BadEnds ict_BadEnds), isl_BadEnds⟩)
    (eci_BadEnds : PySem.W.codeIn K icd_BadEnds "BadEnds.__init__" = true)
    (eki_BadEnds : PySem.W.keepIn K (.ref fI_BadEnds) = true)
    (at_Moments : PySem.W.nsIn K mainGlobals "Moments" = some (some (.ref A_Moments)))
    (pg_Moments : PySem.W.plainGet K A_Moments Str.empty = true)
    (hd_Moments : PySem.W.hasDictIn K A_Moments = true)
    (po_Moments : PySem.W.plainOver K A_Moments = true)
    (sa_Moments : PySem.W.findIn K (.ref A_Moments) "__setattr__" = some (some (.builtin "object.__setattr__")))
    (mk_Moments : PySem.W.makesIn K A_Moments = true)
    (kc_Moments : PySem.W.keepIn K (.ref A_Moments) = true)
    (no_Moments_which : PySem.W.findIn K (.ref A_Moments) "which" = some none)
    (no_Moments_within : PySem.W.findIn K (.ref A_Moments) "within" = some none)
    (no_Moments_form : PySem.W.findIn K (.ref A_Moments) "form" = some none)
    (no_Moments_ends : PySem.W.findIn K (.ref A_Moments) "ends" = some none)
    (ha_Moments : PySem.W.findIn K (.ref A_Moments) "__class__" = some (some (.builtin "object.__class__")))
    (hm_Moments : PySem.W.mroIn K A_Moments (.type "object") = some true)
    (rd_Moments : PySem.W.readsIn K A_Moments (.type "type") = true)
    (ga_Moments : PySem.W.specialIn K (.ref A_Moments) "__getattribute__" = some (some (.builtin "type.__getattribute__")))
    (is_Moments : PySem.W.isClsIn K A_Moments = true)
    (ty_Moments : PySem.W.typeIn K (.ref A_Moments) = some (.type "type"))
    (ss_Moments : PySem.W.subIn K (.ref A_Moments) (.ref A_Moments) = some true)
    (se_Moments : PySem.W.selfFirst K A_Moments = true)
    (at_Answer : PySem.W.nsIn K mainGlobals "Answer" = some (some (.ref A_Answer)))
    (pg_Answer : PySem.W.plainGet K A_Answer Str.empty = true)
    (hd_Answer : PySem.W.hasDictIn K A_Answer = true)
    (po_Answer : PySem.W.plainOver K A_Answer = true)
    (sa_Answer : PySem.W.findIn K (.ref A_Answer) "__setattr__" = some (some (.builtin "object.__setattr__")))
    (mk_Answer : PySem.W.makesIn K A_Answer = true)
    (kc_Answer : PySem.W.keepIn K (.ref A_Answer) = true)
    (no_Answer_what : PySem.W.findIn K (.ref A_Answer) "what" = some none)
    (no_Answer_ends : PySem.W.findIn K (.ref A_Answer) "ends" = some none)
    (ha_Answer : PySem.W.findIn K (.ref A_Answer) "__class__" = some (some (.builtin "object.__class__")))
    (hm_Answer : PySem.W.mroIn K A_Answer (.type "object") = some true)
    (rd_Answer : PySem.W.readsIn K A_Answer (.type "type") = true)
    (ga_Answer : PySem.W.specialIn K (.ref A_Answer) "__getattribute__" = some (some (.builtin "type.__getattribute__")))
    (is_Answer : PySem.W.isClsIn K A_Answer = true)
    (ty_Answer : PySem.W.typeIn K (.ref A_Answer) = some (.type "type"))
    (ss_Answer : PySem.W.subIn K (.ref A_Answer) (.ref A_Answer) = some true)
    (se_Answer : PySem.W.selfFirst K A_Answer = true)
    (at_Number : PySem.W.nsIn K mainGlobals "Number" = some (some (.ref A_Number)))
    (pg_Number : PySem.W.plainGet K A_Number Str.empty = true)
    (hd_Number : PySem.W.hasDictIn K A_Number = true)
    (po_Number : PySem.W.plainOver K A_Number = true)
    (sa_Number : PySem.W.findIn K (.ref A_Number) "__setattr__" = some (some (.builtin "object.__setattr__")))
    (mk_Number : PySem.W.makesIn K A_Number = true)
    (kc_Number : PySem.W.keepIn K (.ref A_Number) = true)
    (no_Number_what : PySem.W.findIn K (.ref A_Number) "what" = some none)
    (no_Number_ends : PySem.W.findIn K (.ref A_Number) "ends" = some none)
    (ha_Number : PySem.W.findIn K (.ref A_Number) "__class__" = some (some (.builtin "object.__class__")))
    (hm_Number : PySem.W.mroIn K A_Number (.type "object") = some true)
    (rd_Number : PySem.W.readsIn K A_Number (.type "type") = true)
    (ga_Number : PySem.W.specialIn K (.ref A_Number) "__getattribute__" = some (some (.builtin "type.__getattribute__")))
    (is_Number : PySem.W.isClsIn K A_Number = true)
    (ty_Number : PySem.W.typeIn K (.ref A_Number) = some (.type "type"))
    (ss_Number : PySem.W.subIn K (.ref A_Number) (.ref A_Number) = some true)
    (se_Number : PySem.W.selfFirst K A_Number = true)
    (at_Loop : PySem.W.nsIn K mainGlobals "Loop" = some (some (.ref A_Loop)))
    (pg_Loop : PySem.W.plainGet K A_Loop Str.empty = true)
    (hd_Loop : PySem.W.hasDictIn K A_Loop = true)
    (po_Loop : PySem.W.plainOver K A_Loop = true)
    (sa_Loop : PySem.W.findIn K (.ref A_Loop) "__setattr__" = some (some (.builtin "object.__setattr__")))
    (mk_Loop : PySem.W.makesIn K A_Loop = true)
    (kc_Loop : PySem.W.keepIn K (.ref A_Loop) = true)
    (no_Loop_order : PySem.W.findIn K (.ref A_Loop) "order" = some none)
    (no_Loop_ahead : PySem.W.findIn K (.ref A_Loop) "ahead" = some none)
    (no_Loop_each : PySem.W.findIn K (.ref A_Loop) "each" = some none)
    (no_Loop_behind : PySem.W.findIn K (.ref A_Loop) "behind" = some none)
    (no_Loop_known : PySem.W.findIn K (.ref A_Loop) "known" = some none)
    (ha_Loop : PySem.W.findIn K (.ref A_Loop) "__class__" = some (some (.builtin "object.__class__")))
    (hm_Loop : PySem.W.mroIn K A_Loop (.type "object") = some true)
    (rd_Loop : PySem.W.readsIn K A_Loop (.type "type") = true)
    (ga_Loop : PySem.W.specialIn K (.ref A_Loop) "__getattribute__" = some (some (.builtin "type.__getattribute__")))
    (is_Loop : PySem.W.isClsIn K A_Loop = true)
    (ty_Loop : PySem.W.typeIn K (.ref A_Loop) = some (.type "type"))
    (ss_Loop : PySem.W.subIn K (.ref A_Loop) (.ref A_Loop) = some true)
    (se_Loop : PySem.W.selfFirst K A_Loop = true)
    (sx_Moments_Answer : PySem.W.subIn K (.ref A_Moments) (.ref A_Answer) = some false)
    (sx_Moments_Number : PySem.W.subIn K (.ref A_Moments) (.ref A_Number) = some false)
    (sx_Moments_Loop : PySem.W.subIn K (.ref A_Moments) (.ref A_Loop) = some false)
    (sx_Answer_Moments : PySem.W.subIn K (.ref A_Answer) (.ref A_Moments) = some false)
    (sx_Answer_Number : PySem.W.subIn K (.ref A_Answer) (.ref A_Number) = some false)
    (sx_Answer_Loop : PySem.W.subIn K (.ref A_Answer) (.ref A_Loop) = some false)
    (sx_Number_Moments : PySem.W.subIn K (.ref A_Number) (.ref A_Moments) = some false)
    (sx_Number_Answer : PySem.W.subIn K (.ref A_Number) (.ref A_Answer) = some false)
    (sx_Number_Loop : PySem.W.subIn K (.ref A_Number) (.ref A_Loop) = some false)
    (sx_Loop_Moments : PySem.W.subIn K (.ref A_Loop) (.ref A_Moments) = some false)
    (sx_Loop_Answer : PySem.W.subIn K (.ref A_Loop) (.ref A_Answer) = some false)
    (sx_Loop_Number : PySem.W.subIn K (.ref A_Loop) (.ref A_Number) = some false)
    (at_Wish : PySem.W.nsIn K mainGlobals "Wish" = some (some (.ref A_Wish)))
    (is_Wish : PySem.W.isClsIn K A_Wish = true)
    (ty_Wish : PySem.W.typeIn K (.ref A_Wish) = some (.type "type"))
    (ss_Wish : PySem.W.subIn K (.ref A_Wish) (.ref A_Wish) = some true)
    (sx_Moments_Wish : PySem.W.subIn K (.ref A_Moments) (.ref A_Wish) = some true)
    (sx_Answer_Wish : PySem.W.subIn K (.ref A_Answer) (.ref A_Wish) = some true)
    (sx_Number_Wish : PySem.W.subIn K (.ref A_Number) (.ref A_Wish) = some true)
    (sx_Loop_Wish : PySem.W.subIn K (.ref A_Loop) (.ref A_Wish) = some false)
    (ic_n : PySem.W.specialIn K (.builtin "object.__class__") "__get__" = some (some (.builtin "getset_descriptor.__get__")))
    (ic_t : PySem.W.takesIn K (.builtin "object.__class__") = some true)
    (a_l_bag : PySem.W.nsIn K mainGlobals "_law_bag" = some (some (.ref f_l_bag)))
    (l_l_bag : K.lookup f_l_bag = some ⟨oc_l_bag, od_l_bag, .func (PySem.W.fnOf "_law_bag" "_law_bag" (defArgs s_l_bag) (defBody s_l_bag) (defScope s_l_bag) .none kV_l_bag dc_l_bag pm_l_bag an_l_bag cd_l_bag ct_l_bag), sl_l_bag⟩)
    (c_l_bag : PySem.W.codeIn K cd_l_bag "_law_bag" = true)
    (k_l_bag : PySem.W.keepIn K (.ref f_l_bag) = true)
    (a_l_terms : PySem.W.nsIn K mainGlobals "_law_terms" = some (some (.ref f_l_terms)))
    (l_l_terms : K.lookup f_l_terms = some ⟨oc_l_terms, od_l_terms, .func (PySem.W.fnOf "_law_terms" "_law_terms" (defArgs s_l_terms) (defBody s_l_terms) (defScope s_l_terms) .none kV_l_terms dc_l_terms pm_l_terms an_l_terms cd_l_terms ct_l_terms), sl_l_terms⟩)
    (c_l_terms : PySem.W.codeIn K cd_l_terms "_law_terms" = true)
    (k_l_terms : PySem.W.keepIn K (.ref f_l_terms) = true)
    (a_check_order : PySem.W.nsIn K mainGlobals "check_order" = some (some (.ref f_check_order)))
    (l_check_order : K.lookup f_check_order = some ⟨oc_check_order, od_check_order, .func (PySem.W.fnOf "check_order" "check_order" (defArgs s_check_order) (defBody s_check_order) (defScope s_check_order) .none kV_check_order dc_check_order pm_check_order an_check_order cd_check_order ct_check_order), sl_check_order⟩)
    (c_check_order : PySem.W.codeIn K cd_check_order "check_order" = true)
    (k_check_order : PySem.W.keepIn K (.ref f_check_order) = true)
    (a_check_rules : PySem.W.nsIn K mainGlobals "check_rules" = some (some (.ref f_check_rules)))
    (l_check_rules : K.lookup f_check_rules = some ⟨oc_check_rules, od_check_rules, .func (PySem.W.fnOf "check_rules" "check_rules" (defArgs s_check_rules) (defBody s_check_rules) (defScope s_check_rules) .none kV_check_rules dc_check_rules pm_check_rules an_check_rules cd_check_rules ct_check_rules), sl_check_rules⟩)
    (c_check_rules : PySem.W.codeIn K cd_check_rules "check_rules" = true)
    (k_check_rules : PySem.W.keepIn K (.ref f_check_rules) = true)
    (a_Loop_init : PySem.W.findIn K (.ref A_Loop) "__init__" = some (some (.ref f_Loop_init)))
    (l_Loop_init : K.lookup f_Loop_init = some ⟨oc_Loop_init, od_Loop_init, .func (PySem.W.fnOf "__init__" "Loop.__init__" (defArgs s_Loop_init) (defBody s_Loop_init) (defScope s_Loop_init) .none (.ref D_Loop_init) dc_Loop_init pm_Loop_init an_Loop_init cd_Loop_init ct_Loop_init), sl_Loop_init⟩)
    (c_Loop_init : PySem.W.codeIn K cd_Loop_init "Loop.__init__" = true)
    (k_Loop_init : PySem.W.keepIn K (.ref f_Loop_init) = true)
    (i_Loop_init : PySem.W.isFn K (.ref f_Loop_init) = true)
    (n0_Loop_init : PySem.W.nsIn K D_Loop_init "ahead" = some (some (.ref ea0_Loop_init)))
    (el_Loop_init_ahead : K.lookup ea0_Loop_init = some eo_Loop_init_ahead)
    (ec_Loop_init_ahead : eo_Loop_init_ahead.cls = .type "tuple")
    (ed_Loop_init_ahead : eo_Loop_init_ahead.data = .seq #[] en_Loop_init_ahead)
    (n1_Loop_init : PySem.W.nsIn K D_Loop_init "each" = some (some (.ref ea1_Loop_init)))
    (el_Loop_init_each : K.lookup ea1_Loop_init = some eo_Loop_init_each)
    (ec_Loop_init_each : eo_Loop_init_each.cls = .type "tuple")
    (ed_Loop_init_each : eo_Loop_init_each.data = .seq #[] en_Loop_init_each)
    (n2_Loop_init : PySem.W.nsIn K D_Loop_init "behind" = some (some (.ref ea2_Loop_init)))
    (el_Loop_init_behind : K.lookup ea2_Loop_init = some eo_Loop_init_behind)
    (ec_Loop_init_behind : eo_Loop_init_behind.cls = .type "tuple")
    (ed_Loop_init_behind : eo_Loop_init_behind.data = .seq #[] en_Loop_init_behind)
    (a_check_word : PySem.W.nsIn K mainGlobals "check_word" = some (some (.ref f_check_word)))
    (l_check_word : K.lookup f_check_word = some ⟨oc_check_word, od_check_word, .func (PySem.W.fnOf "check_word" "check_word" (defArgs s_check_word) (defBody s_check_word) (defScope s_check_word) .none kV_check_word dc_check_word pm_check_word an_check_word cd_check_word ct_check_word), sl_check_word⟩)
    (c_check_word : PySem.W.codeIn K cd_check_word "check_word" = true)
    (k_check_word : PySem.W.keepIn K (.ref f_check_word) = true)
    (a_check_ends : PySem.W.nsIn K mainGlobals "check_ends" = some (some (.ref f_check_ends)))
    (l_check_ends : K.lookup f_check_ends = some ⟨oc_check_ends, od_check_ends, .func (PySem.W.fnOf "check_ends" "check_ends" (defArgs s_check_ends) (defBody s_check_ends) (defScope s_check_ends) .none kV_check_ends dc_check_ends pm_check_ends an_check_ends cd_check_ends ct_check_ends), sl_check_ends⟩)
    (c_check_ends : PySem.W.codeIn K cd_check_ends "check_ends" = true)
    (k_check_ends : PySem.W.keepIn K (.ref f_check_ends) = true)
    (a_Moments_init : PySem.W.findIn K (.ref A_Moments) "__init__" = some (some (.ref f_Moments_init)))
    (l_Moments_init : K.lookup f_Moments_init = some ⟨oc_Moments_init, od_Moments_init, .func (PySem.W.fnOf "__init__" "Moments.__init__" (defArgs s_Moments_init) (defBody s_Moments_init) (defScope s_Moments_init) .none (.ref D_Moments_init) dc_Moments_init pm_Moments_init an_Moments_init cd_Moments_init ct_Moments_init), sl_Moments_init⟩)
    (c_Moments_init : PySem.W.codeIn K cd_Moments_init "Moments.__init__" = true)
    (k_Moments_init : PySem.W.keepIn K (.ref f_Moments_init) = true)
    (i_Moments_init : PySem.W.isFn K (.ref f_Moments_init) = true)
    (n0_Moments_init : PySem.W.nsIn K D_Moments_init "within" = some (some (.bool false)))
    (n1_Moments_init : PySem.W.nsIn K D_Moments_init "form" = some (some (.str "one" u1_Moments_init)))
    (n2_Moments_init : PySem.W.nsIn K D_Moments_init "ends" = some (some (.str "half" u2_Moments_init)))
    (a_Moments_by : PySem.W.findIn K (.ref A_Moments) "by" = some (some (.ref f_Moments_by)))
    (l_Moments_by : K.lookup f_Moments_by = some ⟨oc_Moments_by, od_Moments_by, .func (PySem.W.fnOf "by" "Moments.by" (defArgs s_Moments_by) (defBody s_Moments_by) (defScope s_Moments_by) .none kV_Moments_by dc_Moments_by pm_Moments_by an_Moments_by cd_Moments_by ct_Moments_by), sl_Moments_by⟩)
    (c_Moments_by : PySem.W.codeIn K cd_Moments_by "Moments.by" = true)
    (k_Moments_by : PySem.W.keepIn K (.ref f_Moments_by) = true)
    (i_Moments_by : PySem.W.isFn K (.ref f_Moments_by) = true)
    (a_Answer_init : PySem.W.findIn K (.ref A_Answer) "__init__" = some (some (.ref f_Answer_init)))
    (l_Answer_init : K.lookup f_Answer_init = some ⟨oc_Answer_init, od_Answer_init, .func (PySem.W.fnOf "__init__" "Answer.__init__" (defArgs s_Answer_init) (defBody s_Answer_init) (defScope s_Answer_init) .none (.ref D_Answer_init) dc_Answer_init pm_Answer_init an_Answer_init cd_Answer_init ct_Answer_init), sl_Answer_init⟩)
    (c_Answer_init : PySem.W.codeIn K cd_Answer_init "Answer.__init__" = true)
    (k_Answer_init : PySem.W.keepIn K (.ref f_Answer_init) = true)
    (i_Answer_init : PySem.W.isFn K (.ref f_Answer_init) = true)
    (n0_Answer_init : PySem.W.nsIn K D_Answer_init "ends" = some (some (.str "half" u0_Answer_init)))
    (a_Answer_by : PySem.W.findIn K (.ref A_Answer) "by" = some (some (.ref f_Answer_by)))
    (l_Answer_by : K.lookup f_Answer_by = some ⟨oc_Answer_by, od_Answer_by, .func (PySem.W.fnOf "by" "Answer.by" (defArgs s_Answer_by) (defBody s_Answer_by) (defScope s_Answer_by) .none kV_Answer_by dc_Answer_by pm_Answer_by an_Answer_by cd_Answer_by ct_Answer_by), sl_Answer_by⟩)
    (c_Answer_by : PySem.W.codeIn K cd_Answer_by "Answer.by" = true)
    (k_Answer_by : PySem.W.keepIn K (.ref f_Answer_by) = true)
    (i_Answer_by : PySem.W.isFn K (.ref f_Answer_by) = true)
    (a_Number_init : PySem.W.findIn K (.ref A_Number) "__init__" = some (some (.ref f_Number_init)))
    (l_Number_init : K.lookup f_Number_init = some ⟨oc_Number_init, od_Number_init, .func (PySem.W.fnOf "__init__" "Number.__init__" (defArgs s_Number_init) (defBody s_Number_init) (defScope s_Number_init) .none (.ref D_Number_init) dc_Number_init pm_Number_init an_Number_init cd_Number_init ct_Number_init), sl_Number_init⟩)
    (c_Number_init : PySem.W.codeIn K cd_Number_init "Number.__init__" = true)
    (k_Number_init : PySem.W.keepIn K (.ref f_Number_init) = true)
    (i_Number_init : PySem.W.isFn K (.ref f_Number_init) = true)
    (n0_Number_init : PySem.W.nsIn K D_Number_init "ends" = some (some (.str "half" u0_Number_init)))
    (a_Number_by : PySem.W.findIn K (.ref A_Number) "by" = some (some (.ref f_Number_by)))
    (l_Number_by : K.lookup f_Number_by = some ⟨oc_Number_by, od_Number_by, .func (PySem.W.fnOf "by" "Number.by" (defArgs s_Number_by) (defBody s_Number_by) (defScope s_Number_by) .none kV_Number_by dc_Number_by pm_Number_by an_Number_by cd_Number_by ct_Number_by), sl_Number_by⟩)
    (c_Number_by : PySem.W.codeIn K cd_Number_by "Number.by" = true)
    (k_Number_by : PySem.W.keepIn K (.ref f_Number_by) = true)
    (i_Number_by : PySem.W.isFn K (.ref f_Number_by) = true)
    (a_l_take : PySem.W.nsIn K mainGlobals "_law_take" = some (some (.ref f_l_take)))
    (l_l_take : K.lookup f_l_take = some ⟨oc_l_take, od_l_take, .func (PySem.W.fnOf "_law_take" "_law_take" (defArgs s_l_take) (defBody s_l_take) (defScope s_l_take) .none kV_l_take dc_l_take pm_l_take an_l_take cd_l_take ct_l_take), sl_l_take⟩)
    (c_l_take : PySem.W.codeIn K cd_l_take "_law_take" = true)
    (k_l_take : PySem.W.keepIn K (.ref f_l_take) = true)
    (a_l_of : PySem.W.nsIn K mainGlobals "_law_of" = some (some (.ref f_l_of)))
    (l_l_of : K.lookup f_l_of = some ⟨oc_l_of, od_l_of, .func (PySem.W.fnOf "_law_of" "_law_of" (defArgs s_l_of) (defBody s_l_of) (defScope s_l_of) .none kV_l_of dc_l_of pm_l_of an_l_of cd_l_of ct_l_of), sl_l_of⟩)
    (c_l_of : PySem.W.codeIn K cd_l_of "_law_of" = true)
    (k_l_of : PySem.W.keepIn K (.ref f_l_of) = true)
    (a_l_wish : PySem.W.nsIn K mainGlobals "_law_wish" = some (some (.ref f_l_wish)))
    (l_l_wish : K.lookup f_l_wish = some ⟨oc_l_wish, od_l_wish, .func (PySem.W.fnOf "_law_wish" "_law_wish" (defArgs s_l_wish) (defBody s_l_wish) (defScope s_l_wish) .none kV_l_wish dc_l_wish pm_l_wish an_l_wish cd_l_wish ct_l_wish), sl_l_wish⟩)
    (c_l_wish : PySem.W.codeIn K cd_l_wish "_law_wish" = true)
    (k_l_wish : PySem.W.keepIn K (.ref f_l_wish) = true)
    (a_l_orders : PySem.W.nsIn K mainGlobals "_law_orders" = some (some (.ref f_l_orders)))
    (l_l_orders : K.lookup f_l_orders = some ⟨oc_l_orders, od_l_orders, .func (PySem.W.fnOf "_law_orders" "_law_orders" (defArgs s_l_orders) (defBody s_l_orders) (defScope s_l_orders) .none kV_l_orders dc_l_orders pm_l_orders an_l_orders cd_l_orders ct_l_orders), sl_l_orders⟩)
    (c_l_orders : PySem.W.codeIn K cd_l_orders "_law_orders" = true)
    (k_l_orders : PySem.W.keepIn K (.ref f_l_orders) = true)
    (a_Moments_uses_window : PySem.W.findIn K (.ref A_Moments) "uses_window" = some (some (.ref P_Moments_uses_window)))
    (g_Moments_uses_window : PySem.W.specialIn K (.ref P_Moments_uses_window) "__get__" = some (some (.builtin "property.__get__")))
    (t_Moments_uses_window : PySem.W.takesIn K (.ref P_Moments_uses_window) = some true)
    (r_Moments_uses_window : PySem.W.recIn K P_Moments_uses_window "property" = some (.ref f_Moments_uses_window :: rest_Moments_uses_window))
    (l_Moments_uses_window : K.lookup f_Moments_uses_window = some ⟨oc_Moments_uses_window, od_Moments_uses_window, .func (PySem.W.fnOf "uses_window" "Moments.uses_window" (defArgs s_Moments_uses_window) (defBody s_Moments_uses_window) (defScope s_Moments_uses_window) .none kV_Moments_uses_window dc_Moments_uses_window pm_Moments_uses_window an_Moments_uses_window cd_Moments_uses_window ct_Moments_uses_window), sl_Moments_uses_window⟩)
    (c_Moments_uses_window : PySem.W.codeIn K cd_Moments_uses_window "Moments.uses_window" = true)
    (k_Moments_uses_window : PySem.W.keepIn K (.ref f_Moments_uses_window) = true)
    (a_Answer_uses_window : PySem.W.findIn K (.ref A_Answer) "uses_window" = some (some (.ref P_Answer_uses_window)))
    (g_Answer_uses_window : PySem.W.specialIn K (.ref P_Answer_uses_window) "__get__" = some (some (.builtin "property.__get__")))
    (t_Answer_uses_window : PySem.W.takesIn K (.ref P_Answer_uses_window) = some true)
    (r_Answer_uses_window : PySem.W.recIn K P_Answer_uses_window "property" = some (.ref f_Answer_uses_window :: rest_Answer_uses_window))
    (l_Answer_uses_window : K.lookup f_Answer_uses_window = some ⟨oc_Answer_uses_window, od_Answer_uses_window, .func (PySem.W.fnOf "uses_window" "Answer.uses_window" (defArgs s_Answer_uses_window) (defBody s_Answer_uses_window) (defScope s_Answer_uses_window) .none kV_Answer_uses_window dc_Answer_uses_window pm_Answer_uses_window an_Answer_uses_window cd_Answer_uses_window ct_Answer_uses_window), sl_Answer_uses_window⟩)
    (c_Answer_uses_window : PySem.W.codeIn K cd_Answer_uses_window "Answer.uses_window" = true)
    (k_Answer_uses_window : PySem.W.keepIn K (.ref f_Answer_uses_window) = true)
    (a_Number_uses_window : PySem.W.findIn K (.ref A_Number) "uses_window" = some (some (.ref P_Number_uses_window)))
    (g_Number_uses_window : PySem.W.specialIn K (.ref P_Number_uses_window) "__get__" = some (some (.builtin "property.__get__")))
    (t_Number_uses_window : PySem.W.takesIn K (.ref P_Number_uses_window) = some true)
    (r_Number_uses_window : PySem.W.recIn K P_Number_uses_window "property" = some (.ref f_Number_uses_window :: rest_Number_uses_window))
    (l_Number_uses_window : K.lookup f_Number_uses_window = some ⟨oc_Number_uses_window, od_Number_uses_window, .func (PySem.W.fnOf "uses_window" "Number.uses_window" (defArgs s_Number_uses_window) (defBody s_Number_uses_window) (defScope s_Number_uses_window) .none kV_Number_uses_window dc_Number_uses_window pm_Number_uses_window an_Number_uses_window cd_Number_uses_window ct_Number_uses_window), sl_Number_uses_window⟩)
    (c_Number_uses_window : PySem.W.codeIn K cd_Number_uses_window "Number.uses_window" = true)
    (k_Number_uses_window : PySem.W.keepIn K (.ref f_Number_uses_window) = true)
    (a_Moments_wants_begins : PySem.W.findIn K (.ref A_Moments) "wants_begins" = some (some (.ref P_Moments_wants_begins)))
    (g_Moments_wants_begins : PySem.W.specialIn K (.ref P_Moments_wants_begins) "__get__" = some (some (.builtin "property.__get__")))
    (t_Moments_wants_begins : PySem.W.takesIn K (.ref P_Moments_wants_begins) = some true)
    (r_Moments_wants_begins : PySem.W.recIn K P_Moments_wants_begins "property" = some (.ref f_Moments_wants_begins :: rest_Moments_wants_begins))
    (l_Moments_wants_begins : K.lookup f_Moments_wants_begins = some ⟨oc_Moments_wants_begins, od_Moments_wants_begins, .func (PySem.W.fnOf "wants_begins" "Moments.wants_begins" (defArgs s_Moments_wants_begins) (defBody s_Moments_wants_begins) (defScope s_Moments_wants_begins) .none kV_Moments_wants_begins dc_Moments_wants_begins pm_Moments_wants_begins an_Moments_wants_begins cd_Moments_wants_begins ct_Moments_wants_begins), sl_Moments_wants_begins⟩)
    (c_Moments_wants_begins : PySem.W.codeIn K cd_Moments_wants_begins "Moments.wants_begins" = true)
    (k_Moments_wants_begins : PySem.W.keepIn K (.ref f_Moments_wants_begins) = true)
    (a_Answer_wants_begins : PySem.W.findIn K (.ref A_Answer) "wants_begins" = some (some (.ref P_Answer_wants_begins)))
    (g_Answer_wants_begins : PySem.W.specialIn K (.ref P_Answer_wants_begins) "__get__" = some (some (.builtin "property.__get__")))
    (t_Answer_wants_begins : PySem.W.takesIn K (.ref P_Answer_wants_begins) = some true)
    (r_Answer_wants_begins : PySem.W.recIn K P_Answer_wants_begins "property" = some (.ref f_Answer_wants_begins :: rest_Answer_wants_begins))
    (l_Answer_wants_begins : K.lookup f_Answer_wants_begins = some ⟨oc_Answer_wants_begins, od_Answer_wants_begins, .func (PySem.W.fnOf "wants_begins" "Answer.wants_begins" (defArgs s_Answer_wants_begins) (defBody s_Answer_wants_begins) (defScope s_Answer_wants_begins) .none kV_Answer_wants_begins dc_Answer_wants_begins pm_Answer_wants_begins an_Answer_wants_begins cd_Answer_wants_begins ct_Answer_wants_begins), sl_Answer_wants_begins⟩)
    (c_Answer_wants_begins : PySem.W.codeIn K cd_Answer_wants_begins "Answer.wants_begins" = true)
    (k_Answer_wants_begins : PySem.W.keepIn K (.ref f_Answer_wants_begins) = true)
    (a_Number_wants_begins : PySem.W.findIn K (.ref A_Number) "wants_begins" = some (some (.ref P_Number_wants_begins)))
    (g_Number_wants_begins : PySem.W.specialIn K (.ref P_Number_wants_begins) "__get__" = some (some (.builtin "property.__get__")))
    (t_Number_wants_begins : PySem.W.takesIn K (.ref P_Number_wants_begins) = some true)
    (r_Number_wants_begins : PySem.W.recIn K P_Number_wants_begins "property" = some (.ref f_Number_wants_begins :: rest_Number_wants_begins))
    (l_Number_wants_begins : K.lookup f_Number_wants_begins = some ⟨oc_Number_wants_begins, od_Number_wants_begins, .func (PySem.W.fnOf "wants_begins" "Number.wants_begins" (defArgs s_Number_wants_begins) (defBody s_Number_wants_begins) (defScope s_Number_wants_begins) .none kV_Number_wants_begins dc_Number_wants_begins pm_Number_wants_begins an_Number_wants_begins cd_Number_wants_begins ct_Number_wants_begins), sl_Number_wants_begins⟩)
    (c_Number_wants_begins : PySem.W.codeIn K cd_Number_wants_begins "Number.wants_begins" = true)
    (k_Number_wants_begins : PySem.W.keepIn K (.ref f_Number_wants_begins) = true)
    (a_reads_events : PySem.W.nsIn K mainGlobals "reads_events" = some (some (.ref f_reads_events)))
    (l_reads_events : K.lookup f_reads_events = some ⟨oc_reads_events, od_reads_events, .func (PySem.W.fnOf "reads_events" "reads_events" (defArgs s_reads_events) (defBody s_reads_events) (defScope s_reads_events) .none kV_reads_events dc_reads_events pm_reads_events an_reads_events cd_reads_events ct_reads_events), sl_reads_events⟩)
    (c_reads_events : PySem.W.codeIn K cd_reads_events "reads_events" = true)
    (k_reads_events : PySem.W.keepIn K (.ref f_reads_events) = true)
    (a_Loop_reads : PySem.W.findIn K (.ref A_Loop) "reads" = some (some (.ref P_Loop_reads)))
    (g_Loop_reads : PySem.W.specialIn K (.ref P_Loop_reads) "__get__" = some (some (.builtin "property.__get__")))
    (t_Loop_reads : PySem.W.takesIn K (.ref P_Loop_reads) = some true)
    (r_Loop_reads : PySem.W.recIn K P_Loop_reads "property" = some (.ref f_Loop_reads :: rest_Loop_reads))
    (l_Loop_reads : K.lookup f_Loop_reads = some ⟨oc_Loop_reads, od_Loop_reads, .func (PySem.W.fnOf "reads" "Loop.reads" (defArgs s_Loop_reads) (defBody s_Loop_reads) (defScope s_Loop_reads) .none kV_Loop_reads dc_Loop_reads pm_Loop_reads an_Loop_reads cd_Loop_reads ct_Loop_reads), sl_Loop_reads⟩)
    (c_Loop_reads : PySem.W.codeIn K cd_Loop_reads "Loop.reads" = true)
    (k_Loop_reads : PySem.W.keepIn K (.ref f_Loop_reads) = true)
    (a_Moments_fits : PySem.W.findIn K (.ref A_Moments) "fits" = some (some (.ref f_Moments_fits)))
    (l_Moments_fits : K.lookup f_Moments_fits = some ⟨oc_Moments_fits, od_Moments_fits, .func (PySem.W.fnOf "fits" "Moments.fits" (defArgs s_Moments_fits) (defBody s_Moments_fits) (defScope s_Moments_fits) .none kV_Moments_fits dc_Moments_fits pm_Moments_fits an_Moments_fits cd_Moments_fits ct_Moments_fits), sl_Moments_fits⟩)
    (c_Moments_fits : PySem.W.codeIn K cd_Moments_fits "Moments.fits" = true)
    (k_Moments_fits : PySem.W.keepIn K (.ref f_Moments_fits) = true)
    (i_Moments_fits : PySem.W.isFn K (.ref f_Moments_fits) = true)
    (a_Answer_fits : PySem.W.findIn K (.ref A_Answer) "fits" = some (some (.ref f_Answer_fits)))
    (l_Answer_fits : K.lookup f_Answer_fits = some ⟨oc_Answer_fits, od_Answer_fits, .func (PySem.W.fnOf "fits" "Answer.fits" (defArgs s_Answer_fits) (defBody s_Answer_fits) (defScope s_Answer_fits) .none kV_Answer_fits dc_Answer_fits pm_Answer_fits an_Answer_fits cd_Answer_fits ct_Answer_fits), sl_Answer_fits⟩)
    (c_Answer_fits : PySem.W.codeIn K cd_Answer_fits "Answer.fits" = true)
    (k_Answer_fits : PySem.W.keepIn K (.ref f_Answer_fits) = true)
    (i_Answer_fits : PySem.W.isFn K (.ref f_Answer_fits) = true)
    (a_Number_fits : PySem.W.findIn K (.ref A_Number) "fits" = some (some (.ref f_Number_fits)))
    (l_Number_fits : K.lookup f_Number_fits = some ⟨oc_Number_fits, od_Number_fits, .func (PySem.W.fnOf "fits" "Number.fits" (defArgs s_Number_fits) (defBody s_Number_fits) (defScope s_Number_fits) .none kV_Number_fits dc_Number_fits pm_Number_fits an_Number_fits cd_Number_fits ct_Number_fits), sl_Number_fits⟩)
    (c_Number_fits : PySem.W.codeIn K cd_Number_fits "Number.fits" = true)
    (k_Number_fits : PySem.W.keepIn K (.ref f_Number_fits) = true)
    (i_Number_fits : PySem.W.isFn K (.ref f_Number_fits) = true)
    (a_Moments_eq : PySem.W.findIn K (.ref A_Moments) "__eq__" = some (some (.ref f_Moments_eq)))
    (l_Moments_eq : K.lookup f_Moments_eq = some ⟨oc_Moments_eq, od_Moments_eq, .func (PySem.W.fnOf "__eq__" "Moments.__eq__" (defArgs s_Moments_eq) (defBody s_Moments_eq) (defScope s_Moments_eq) .none kV_Moments_eq dc_Moments_eq pm_Moments_eq an_Moments_eq cd_Moments_eq ct_Moments_eq), sl_Moments_eq⟩)
    (c_Moments_eq : PySem.W.codeIn K cd_Moments_eq "Moments.__eq__" = true)
    (k_Moments_eq : PySem.W.keepIn K (.ref f_Moments_eq) = true)
    (i_Moments_eq : PySem.W.isFn K (.ref f_Moments_eq) = true)
    (a_Answer_eq : PySem.W.findIn K (.ref A_Answer) "__eq__" = some (some (.ref f_Answer_eq)))
    (l_Answer_eq : K.lookup f_Answer_eq = some ⟨oc_Answer_eq, od_Answer_eq, .func (PySem.W.fnOf "__eq__" "Answer.__eq__" (defArgs s_Answer_eq) (defBody s_Answer_eq) (defScope s_Answer_eq) .none kV_Answer_eq dc_Answer_eq pm_Answer_eq an_Answer_eq cd_Answer_eq ct_Answer_eq), sl_Answer_eq⟩)
    (c_Answer_eq : PySem.W.codeIn K cd_Answer_eq "Answer.__eq__" = true)
    (k_Answer_eq : PySem.W.keepIn K (.ref f_Answer_eq) = true)
    (i_Answer_eq : PySem.W.isFn K (.ref f_Answer_eq) = true)
    (a_Number_eq : PySem.W.findIn K (.ref A_Number) "__eq__" = some (some (.ref f_Number_eq)))
    (l_Number_eq : K.lookup f_Number_eq = some ⟨oc_Number_eq, od_Number_eq, .func (PySem.W.fnOf "__eq__" "Number.__eq__" (defArgs s_Number_eq) (defBody s_Number_eq) (defScope s_Number_eq) .none kV_Number_eq dc_Number_eq pm_Number_eq an_Number_eq cd_Number_eq ct_Number_eq), sl_Number_eq⟩)
    (c_Number_eq : PySem.W.codeIn K cd_Number_eq "Number.__eq__" = true)
    (k_Number_eq : PySem.W.keepIn K (.ref f_Number_eq) = true)
    (i_Number_eq : PySem.W.isFn K (.ref f_Number_eq) = true)
    (a_l_parts_forms : PySem.W.nsIn K mainGlobals "_law_parts_forms" = some (some (.ref f_l_parts_forms)))
    (l_l_parts_forms : K.lookup f_l_parts_forms = some ⟨oc_l_parts_forms, od_l_parts_forms, .func (PySem.W.fnOf "_law_parts_forms" "_law_parts_forms" (defArgs s_l_parts_forms) (defBody s_l_parts_forms) (defScope s_l_parts_forms) .none kV_l_parts_forms dc_l_parts_forms pm_l_parts_forms an_l_parts_forms cd_l_parts_forms ct_l_parts_forms), sl_l_parts_forms⟩)
    (c_l_parts_forms : PySem.W.codeIn K cd_l_parts_forms "_law_parts_forms" = true)
    (k_l_parts_forms : PySem.W.keepIn K (.ref f_l_parts_forms) = true)
    (a_law : PySem.W.nsIn K mainGlobals "law" = some (some (.ref f_law)))
    (l_law : K.lookup f_law = some ⟨oc_law, od_law, .func (PySem.W.fnOf "law" "law" (defArgs s_law) (defBody s_law) (defScope s_law) .none kV_law dc_law pm_law an_law cd_law ct_law), sl_law⟩)
    (c_law : PySem.W.codeIn K cd_law "law" = true)
    (k_law : PySem.W.keepIn K (.ref f_law) = true)
    (gtg_EVENT_ORDERS : PySem.W.nsIn K mainGlobals "EVENT_ORDERS" = some (some (.ref gta_EVENT_ORDERS)))
    (gtl_EVENT_ORDERS : K.lookup gta_EVENT_ORDERS = some gto_EVENT_ORDERS)
    (gtc_EVENT_ORDERS : gto_EVENT_ORDERS.cls = .type "tuple")
    (gtd_EVENT_ORDERS : gto_EVENT_ORDERS.data = .seq gti_EVENT_ORDERS.toArray gtn_EVENT_ORDERS)
    (gtv_EVENT_ORDERS : Vals (([(.str "at"), (.str "at in"), (.str "at out")] : List D).map flatV) gti_EVENT_ORDERS)
    (gtg_STRETCH_ORDERS : PySem.W.nsIn K mainGlobals "STRETCH_ORDERS" = some (some (.ref gta_STRETCH_ORDERS)))
    (gtl_STRETCH_ORDERS : K.lookup gta_STRETCH_ORDERS = some gto_STRETCH_ORDERS)
    (gtc_STRETCH_ORDERS : gto_STRETCH_ORDERS.cls = .type "tuple")
    (gtd_STRETCH_ORDERS : gto_STRETCH_ORDERS.data = .seq gti_STRETCH_ORDERS.toArray gtn_STRETCH_ORDERS)
    (gtv_STRETCH_ORDERS : Vals (([(.str "any"), (.str "begin"), (.str "begin end"), (.str "begin back"), (.str "end"), (.str "end begin"), (.str "end back")] : List D).map flatV) gti_STRETCH_ORDERS)
    (gtg_TIMES : PySem.W.nsIn K mainGlobals "TIMES" = some (some (.ref gta_TIMES)))
    (gtl_TIMES : K.lookup gta_TIMES = some gto_TIMES)
    (gtc_TIMES : gto_TIMES.cls = .type "tuple")
    (gtd_TIMES : gto_TIMES.data = .seq gti_TIMES.toArray gtn_TIMES)
    (gtv_TIMES : Vals (([(.str "some"), (.str "none"), (.str "all"), (.str "one"), (.str "two"), (.str "each"), (.str "inside")] : List D).map flatV) gti_TIMES)
    (gtg_FORMS : PySem.W.nsIn K mainGlobals "FORMS" = some (some (.ref gta_FORMS)))
    (gtl_FORMS : K.lookup gta_FORMS = some gto_FORMS)
    (gtc_FORMS : gto_FORMS.cls = .type "tuple")
    (gtd_FORMS : gto_FORMS.data = .seq gti_FORMS.toArray gtn_FORMS)
    (gtv_FORMS : Vals (([(.str "any"), (.str "full"), (.str "one"), (.str "cut")] : List D).map flatV) gti_FORMS)
    (gtg_ANSWERS : PySem.W.nsIn K mainGlobals "ANSWERS" = some (some (.ref gta_ANSWERS)))
    (gtl_ANSWERS : K.lookup gta_ANSWERS = some gto_ANSWERS)
    (gtc_ANSWERS : gto_ANSWERS.cls = .type "tuple")
    (gtd_ANSWERS : gto_ANSWERS.data = .seq gti_ANSWERS.toArray gtn_ANSWERS)
    (gtv_ANSWERS : Vals (([(.str "busy"), (.str "covered"), (.str "clash")] : List D).map flatV) gti_ANSWERS)
    (gtg_NUMBERS : PySem.W.nsIn K mainGlobals "NUMBERS" = some (some (.ref gta_NUMBERS)))
    (gtl_NUMBERS : K.lookup gta_NUMBERS = some gto_NUMBERS)
    (gtc_NUMBERS : gto_NUMBERS.cls = .type "tuple")
    (gtd_NUMBERS : gto_NUMBERS.data = .seq gti_NUMBERS.toArray gtn_NUMBERS)
    (gtv_NUMBERS : Vals (([(.str "all"), (.str "full"), (.str "left"), (.str "within"), (.str "touched"), (.str "pieces")] : List D).map flatV) gti_NUMBERS)
    (nfx_Moments_Loop : PySem.W.notFirst K A_Moments (.ref A_Loop) = true)
    (nfx_Moments_Number : PySem.W.notFirst K A_Moments (.ref A_Number) = true)
    (nfx_Moments_Answer : PySem.W.notFirst K A_Moments (.ref A_Answer) = true)
    (nfx_Moments_Moments : PySem.W.notFirst K A_Moments (.ref A_Moments) = true)
    (nfx_Answer_Loop : PySem.W.notFirst K A_Answer (.ref A_Loop) = true)
    (nfx_Answer_Number : PySem.W.notFirst K A_Answer (.ref A_Number) = true)
    (nfx_Answer_Answer : PySem.W.notFirst K A_Answer (.ref A_Answer) = true)
    (nfx_Answer_Moments : PySem.W.notFirst K A_Answer (.ref A_Moments) = true)
    (nfx_Number_Loop : PySem.W.notFirst K A_Number (.ref A_Loop) = true)
    (nfx_Number_Number : PySem.W.notFirst K A_Number (.ref A_Number) = true)
    (nfx_Number_Answer : PySem.W.notFirst K A_Number (.ref A_Answer) = true)
    (nfx_Number_Moments : PySem.W.notFirst K A_Number (.ref A_Moments) = true)
    (ne_Moments : PySem.W.findIn K (.ref A_Moments) "__ne__" = some (some (.builtin "object.__ne__")))
    (ne_Answer : PySem.W.findIn K (.ref A_Answer) "__ne__" = some (some (.builtin "object.__ne__")))
    (ne_Number : PySem.W.findIn K (.ref A_Number) "__ne__" = some (some (.builtin "object.__ne__")))
    : ∃ fd : FuncData, (∀ (s : Shared) (v : Value), BindsTo s fd ⟨[v], []⟩ [("_law_script", v)]) ∧ ∀ bh : Heap, K.In bh → bh.Ns mainGlobals mg → FnG l.prog w K mg bh 8 fa fd ["_law_script"] (sp_law K) := by
  have e := hfa.symm.trans (PySem.W.mg_of X G a_law)
  cases e
  have B : Blt mg := ⟨PySem.W.mg_none_of X G z_abs, PySem.W.mg_none_of X G z_any, PySem.W.mg_none_of X G z_bool, PySem.W.mg_none_of X G z_enumerate, PySem.W.mg_none_of X G z_int, PySem.W.mg_none_of X G z_isinstance, PySem.W.mg_none_of X G z_len, PySem.W.mg_none_of X G z_max, PySem.W.mg_none_of X G z_min, PySem.W.mg_none_of X G z_range, PySem.W.mg_none_of X G z_set, PySem.W.mg_none_of X G z_sorted, PySem.W.mg_none_of X G z_str, PySem.W.mg_none_of X G z_tuple⟩
  have T : Txt K mg := ⟨⟨t_FIRST, PySem.W.mg_of X G c_FIRST⟩, ⟨t_LAST, PySem.W.mg_of X G c_LAST⟩, ⟨t_FAR, PySem.W.mg_of X G c_FAR⟩, ⟨⟨CE, .type "type", _, _, PySem.W.mg_of X G e_g, ⟨e_rd, e_ga⟩, ⟨e_1, ⟨_, rfl⟩⟩, ⟨e_2, ⟨_, rfl⟩⟩⟩⟩⟩
  obtain ⟨cm, hc0, hc1, hc2, hc3, hc4, hc5, hc6, hc7, hc8, hc9, hc10, hc11⟩ : ∃ cm : Str → Addr, cm "Moments" = A_Moments ∧ cm "Answer" = A_Answer ∧ cm "Number" = A_Number ∧ cm "Loop" = A_Loop ∧ cm "Wish" = A_Wish ∧ cm "BadOrder" = C_BadOrder ∧ cm "TooMany" = C_TooMany ∧ cm "BadWish" = C_BadWish ∧ cm "BadEnds" = C_BadEnds ∧ cm "()Loop.__init__.ahead" = ea0_Loop_init ∧ cm "()Loop.__init__.each" = ea1_Loop_init ∧ cm "()Loop.__init__.behind" = ea2_Loop_init := ⟨fun s => if s = "Moments" then A_Moments else if s = "Answer" then A_Answer else if s = "Number" then A_Number else if s = "Loop" then A_Loop else if s = "Wish" then A_Wish else if s = "BadOrder" then C_BadOrder else if s = "TooMany" then C_TooMany else if s = "BadWish" then C_BadWish else if s = "BadEnds" then C_BadEnds else if s = "()Loop.__init__.ahead" then ea0_Loop_init else if s = "()Loop.__init__.each" then ea1_Loop_init else ea2_Loop_init, if_pos rfl, (if_neg (by decide +kernel)).trans (if_pos rfl), (if_neg (by decide +kernel)).trans ((if_neg (by decide +kernel)).trans (if_pos rfl)), (if_neg (by decide +kernel)).trans ((if_neg (by decide +kernel)).trans ((if_neg (by decide +kernel)).trans (if_pos rfl))), (if_neg (by decide +kernel)).trans ((if_neg (by decide +kernel)).trans ((if_neg (by decide +kernel)).trans ((if_neg (by decide +kernel)).trans (if_pos rfl)))), (if_neg (by decide +kernel)).trans ((if_neg (by decide +kernel)).trans ((if_neg (by decide +kernel)).trans ((if_neg (by decide +kernel)).trans ((if_neg (by decide +kernel)).trans (if_pos rfl))))), (if_neg (by decide +kernel)).trans ((if_neg (by decide +kernel)).trans ((if_neg (by decide +kernel)).trans ((if_neg (by decide +kernel)).trans ((if_neg (by decide +kernel)).trans ((if_neg (by decide +kernel)).trans (if_pos rfl)))))), (if_neg (by decide +kernel)).trans ((if_neg (by decide +kernel)).trans ((if_neg (by decide +kernel)).trans ((if_neg (by decide +kernel)).trans ((if_neg (by decide +kernel)).trans ((if_neg (by decide +kernel)).trans ((if_neg (by decide +kernel)).trans (if_pos rfl))))))), (if_neg (by decide +kernel)).trans ((if_neg (by decide +kernel)).trans ((if_neg (by decide +kernel)).trans ((if_neg (by decide +kernel)).trans ((if_neg (by decide +kernel)).trans ((if_neg (by decide +kernel)).trans ((if_neg (by decide +kernel)).trans ((if_neg (by decide +kernel)).trans (if_pos rfl)))))))), (if_neg (by decide +kernel)).trans ((if_neg (by decide +kernel)).trans ((if_neg (by decide +kernel)).trans ((if_neg (by decide +kernel)).trans ((if_neg (by decide +kernel)).trans ((if_neg (by decide +kernel)).trans ((if_neg (by decide +kernel)).trans ((if_neg (by decide +kernel)).trans ((if_neg (by decide +kernel)).trans (if_pos rfl))))))))), (if_neg (by decide +kernel)).trans ((if_neg (by decide +kernel)).trans ((if_neg (by decide +kernel)).trans ((if_neg (by decide +kernel)).trans ((if_neg (by decide +kernel)).trans ((if_neg (by decide +kernel)).trans ((if_neg (by decide +kernel)).trans ((if_neg (by decide +kernel)).trans ((if_neg (by decide +kernel)).trans ((if_neg (by decide +kernel)).trans (if_pos rfl)))))))))), (if_neg (by decide +kernel)).trans ((if_neg (by decide +kernel)).trans ((if_neg (by decide +kernel)).trans ((if_neg (by decide +kernel)).trans ((if_neg (by decide +kernel)).trans ((if_neg (by decide +kernel)).trans ((if_neg (by decide +kernel)).trans ((if_neg (by decide +kernel)).trans ((if_neg (by decide +kernel)).trans ((if_neg (by decide +kernel)).trans ((if_neg (by decide +kernel)).trans (rfl)))))))))))⟩
  subst hc0
  subst hc1
  subst hc2
  subst hc3
  subst hc4
  subst hc5
  subst hc6
  subst hc7
  subst hc8
  subst hc9
  subst hc10
  subst hc11
  have EF_BadOrder : ErrG K (cm "BadOrder") "order" := ⟨⟨"ValueError", "ValueError.__new__", "ValueError.__init__", _, PySem.F.excBase_ValueError, PySem.F.store_ValueError.passes, by decide +kernel, nm_BadOrder, qn_BadOrder, NS_BadOrder, bs_BadOrder, sn_BadOrder, sub_BadOrder, ab_BadOrder, col_BadOrder, dd_BadOrder, m0_BadOrder, m1_BadOrder, m2_BadOrder, m3_BadOrder, m5_BadOrder, ex_BadOrder⟩, esa_BadOrder, ega_BadOrder, egg_BadOrder, enf_BadOrder, ekC_BadOrder, eeC_BadOrder, etC_BadOrder, ehC_BadOrder, eiC_BadOrder, esC_BadOrder⟩
  have FI_BadOrder := fun_mk (st := inClass (topS 5) 0) eli_BadOrder eci_BadOrder eki_BadOrder
  have bI_BadOrder := FI_BadOrder.binds (ps := ["self", "order"]) fun _ _ _ _ _ _ us hl => match us, hl with | [_, _], _ => rfl
  have EF_TooMany : ErrG K (cm "TooMany") "limit" := ⟨⟨"OverflowError", "OverflowError.__new__", "OverflowError.__init__", _, PySem.F.excBase_OverflowError, PySem.F.store_OverflowError.passes, by decide +kernel, nm_TooMany, qn_TooMany, NS_TooMany, bs_TooMany, sn_TooMany, sub_TooMany, ab_TooMany, col_TooMany, dd_TooMany, m0_TooMany, m1_TooMany, m2_TooMany, m3_TooMany, m5_TooMany, ex_TooMany⟩, esa_TooMany, ega_TooMany, egg_TooMany, enf_TooMany, ekC_TooMany, eeC_TooMany, etC_TooMany, ehC_TooMany, eiC_TooMany, esC_TooMany⟩
  have FI_TooMany := fun_mk (st := inClass (topS 11) 0) eli_TooMany eci_TooMany eki_TooMany
  have bI_TooMany := FI_TooMany.binds (ps := ["self", "limit"]) fun _ _ _ _ _ _ us hl => match us, hl with | [_, _], _ => rfl
  have EF_BadWish : ErrG K (cm "BadWish") "word" := ⟨⟨"ValueError", "ValueError.__new__", "ValueError.__init__", _, PySem.F.excBase_ValueError, PySem.F.store_ValueError.passes, by decide +kernel, nm_BadWish, qn_BadWish, NS_BadWish, bs_BadWish, sn_BadWish, sub_BadWish, ab_BadWish, col_BadWish, dd_BadWish, m0_BadWish, m1_BadWish, m2_BadWish, m3_BadWish, m5_BadWish, ex_BadWish⟩, esa_BadWish, ega_BadWish, egg_BadWish, enf_BadWish, ekC_BadWish, eeC_BadWish, etC_BadWish, ehC_BadWish, eiC_BadWish, esC_BadWish⟩
  have FI_BadWish := fun_mk (st := inClass (topS 10) 0) eli_BadWish eci_BadWish eki_BadWish
  have bI_BadWish := FI_BadWish.binds (ps := ["self", "word"]) fun _ _ _ _ _ _ us hl => match us, hl with | [_, _], _ => rfl
  have EF_BadEnds : ErrG K (cm "BadEnds") "ends" := ⟨⟨"ValueError", "ValueError.__new__", "ValueError.__init__", _, PySem.F.excBase_ValueError, PySem.F.store_ValueError.passes, by decide +kernel, nm_BadEnds, qn_BadEnds, NS_BadEnds, bs_BadEnds, sn_BadEnds, sub_BadEnds, ab_BadEnds, col_BadEnds, dd_BadEnds, m0_BadEnds, m1_BadEnds, m2_BadEnds, m3_BadEnds, m5_BadEnds, ex_BadEnds⟩, esa_BadEnds, ega_BadEnds, egg_BadEnds, enf_BadEnds, ekC_BadEnds, eeC_BadEnds, etC_BadEnds, ehC_BadEnds, eiC_BadEnds, esC_BadEnds⟩
  have FI_BadEnds := fun_mk (st := inClass (topS 3) 0) eli_BadEnds eci_BadEnds eki_BadEnds
  have bI_BadEnds := FI_BadEnds.binds (ps := ["self", "ends"]) fun _ _ _ _ _ _ us hl => match us, hl with | [_, _], _ => rfl
  have IT_Moments : InsTy (Gx.mk K cm none TT) "Moments" := ⟨⟨pg_Moments, hd_Moments, po_Moments, sa_Moments⟩, ha_Moments, ic_n, ic_t, hm_Moments⟩
  have IT_Answer : InsTy (Gx.mk K cm none TT) "Answer" := ⟨⟨pg_Answer, hd_Answer, po_Answer, sa_Answer⟩, ha_Answer, ic_n, ic_t, hm_Answer⟩
  have IT_Number : InsTy (Gx.mk K cm none TT) "Number" := ⟨⟨pg_Number, hd_Number, po_Number, sa_Number⟩, ha_Number, ic_n, ic_t, hm_Number⟩
  have IT_Loop : InsTy (Gx.mk K cm none TT) "Loop" := ⟨⟨pg_Loop, hd_Loop, po_Loop, sa_Loop⟩, ha_Loop, ic_n, ic_t, hm_Loop⟩
  have KI : Kits K mg cm := ⟨⟨ty_of (List.forall_mem_cons.mpr ⟨kit_tyOwn (by decide +kernel) is_Moments ty_Moments, List.forall_mem_cons.mpr ⟨kit_tyOwn (by decide +kernel) is_Moments ty_Moments, List.forall_mem_cons.mpr ⟨kit_tyOwn (by decide +kernel) is_Moments ty_Moments, List.forall_mem_cons.mpr ⟨kit_tyOwn (by decide +kernel) is_Moments ty_Moments, fun _ z => absurd z List.not_mem_nil⟩⟩⟩⟩), ow_of (List.forall_mem_cons.mpr ⟨⟨IT_Moments, kit_self _⟩, List.forall_mem_cons.mpr ⟨⟨IT_Answer, kit_not is_Moments ty_Moments ss_Moments sx_Answer_Moments⟩, List.forall_mem_cons.mpr ⟨⟨IT_Number, kit_not is_Moments ty_Moments ss_Moments sx_Number_Moments⟩, List.forall_mem_cons.mpr ⟨⟨IT_Loop, kit_not is_Moments ty_Moments ss_Moments sx_Loop_Moments⟩, fun _ z => absurd z List.not_mem_nil⟩⟩⟩⟩)⟩, ⟨ty_of (List.forall_mem_cons.mpr ⟨kit_tyOwn (by decide +kernel) is_Answer ty_Answer, List.forall_mem_cons.mpr ⟨kit_tyOwn (by decide +kernel) is_Answer ty_Answer, List.forall_mem_cons.mpr ⟨kit_tyOwn (by decide +kernel) is_Answer ty_Answer, List.forall_mem_cons.mpr ⟨kit_tyOwn (by decide +kernel) is_Answer ty_Answer, fun _ z => absurd z List.not_mem_nil⟩⟩⟩⟩), ow_of (List.forall_mem_cons.mpr ⟨⟨IT_Moments, kit_not is_Answer ty_Answer ss_Answer sx_Moments_Answer⟩, List.forall_mem_cons.mpr ⟨⟨IT_Answer, kit_self _⟩, List.forall_mem_cons.mpr ⟨⟨IT_Number, kit_not is_Answer ty_Answer ss_Answer sx_Number_Answer⟩, List.forall_mem_cons.mpr ⟨⟨IT_Loop, kit_not is_Answer ty_Answer ss_Answer sx_Loop_Answer⟩, fun _ z => absurd z List.not_mem_nil⟩⟩⟩⟩)⟩, ⟨ty_of (List.forall_mem_cons.mpr ⟨kit_tyOwn (by decide +kernel) is_Number ty_Number, List.forall_mem_cons.mpr ⟨kit_tyOwn (by decide +kernel) is_Number ty_Number, List.forall_mem_cons.mpr ⟨kit_tyOwn (by decide +kernel) is_Number ty_Number, List.forall_mem_cons.mpr ⟨kit_tyOwn (by decide +kernel) is_Number ty_Number, fun _ z => absurd z List.not_mem_nil⟩⟩⟩⟩), ow_of (List.forall_mem_cons.mpr ⟨⟨IT_Moments, kit_not is_Number ty_Number ss_Number sx_Moments_Number⟩, List.forall_mem_cons.mpr ⟨⟨IT_Answer, kit_not is_Number ty_Number ss_Number sx_Answer_Number⟩, List.forall_mem_cons.mpr ⟨⟨IT_Number, kit_self _⟩, List.forall_mem_cons.mpr ⟨⟨IT_Loop, kit_not is_Number ty_Number ss_Number sx_Loop_Number⟩, fun _ z => absurd z List.not_mem_nil⟩⟩⟩⟩)⟩, ⟨ty_of (List.forall_mem_cons.mpr ⟨kit_tyOwn (by decide +kernel) is_Wish ty_Wish, List.forall_mem_cons.mpr ⟨kit_tyOwn (by decide +kernel) is_Wish ty_Wish, List.forall_mem_cons.mpr ⟨kit_tyOwn (by decide +kernel) is_Wish ty_Wish, List.forall_mem_cons.mpr ⟨kit_tyOwn (by decide +kernel) is_Wish ty_Wish, fun _ z => absurd z List.not_mem_nil⟩⟩⟩⟩), ow_of (List.forall_mem_cons.mpr ⟨⟨IT_Moments, kit_yes is_Wish ty_Wish sx_Moments_Wish⟩, List.forall_mem_cons.mpr ⟨⟨IT_Answer, kit_yes is_Wish ty_Wish sx_Answer_Wish⟩, List.forall_mem_cons.mpr ⟨⟨IT_Number, kit_yes is_Wish ty_Wish sx_Number_Wish⟩, List.forall_mem_cons.mpr ⟨⟨IT_Loop, kit_not is_Wish ty_Wish ss_Wish sx_Loop_Wish⟩, fun _ z => absurd z List.not_mem_nil⟩⟩⟩⟩)⟩, PySem.W.mg_of X G at_Moments, IT_Moments.cl, PySem.W.mg_of X G at_Answer, IT_Answer.cl, PySem.W.mg_of X G at_Number, IT_Number.cl, PySem.W.mg_of X G at_Loop, IT_Loop.cl, PySem.W.mg_of X G at_Wish, List.forall_mem_cons.mpr ⟨⟨IT_Moments.cl, no_Moments_which⟩, fun _ z => absurd z List.not_mem_nil⟩, List.forall_mem_cons.mpr ⟨⟨IT_Moments.cl, no_Moments_within⟩, fun _ z => absurd z List.not_mem_nil⟩, List.forall_mem_cons.mpr ⟨⟨IT_Moments.cl, no_Moments_form⟩, fun _ z => absurd z List.not_mem_nil⟩, List.forall_mem_cons.mpr ⟨⟨IT_Answer.cl, no_Answer_what⟩, List.forall_mem_cons.mpr ⟨⟨IT_Number.cl, no_Number_what⟩, fun _ z => absurd z List.not_mem_nil⟩⟩, List.forall_mem_cons.mpr ⟨⟨IT_Answer.cl, no_Answer_what⟩, fun _ z => absurd z List.not_mem_nil⟩, List.forall_mem_cons.mpr ⟨⟨IT_Number.cl, no_Number_what⟩, fun _ z => absurd z List.not_mem_nil⟩, List.forall_mem_cons.mpr ⟨⟨IT_Moments.cl, no_Moments_ends⟩, List.forall_mem_cons.mpr ⟨⟨IT_Answer.cl, no_Answer_ends⟩, List.forall_mem_cons.mpr ⟨⟨IT_Number.cl, no_Number_ends⟩, fun _ z => absurd z List.not_mem_nil⟩⟩⟩, List.forall_mem_cons.mpr ⟨⟨IT_Moments.cl, no_Moments_ends⟩, fun _ z => absurd z List.not_mem_nil⟩, List.forall_mem_cons.mpr ⟨⟨IT_Answer.cl, no_Answer_ends⟩, fun _ z => absurd z List.not_mem_nil⟩, List.forall_mem_cons.mpr ⟨⟨IT_Number.cl, no_Number_ends⟩, fun _ z => absurd z List.not_mem_nil⟩, List.forall_mem_cons.mpr ⟨⟨IT_Loop.cl, no_Loop_order⟩, fun _ z => absurd z List.not_mem_nil⟩, List.forall_mem_cons.mpr ⟨⟨IT_Loop.cl, no_Loop_ahead⟩, fun _ z => absurd z List.not_mem_nil⟩, List.forall_mem_cons.mpr ⟨⟨IT_Loop.cl, no_Loop_each⟩, fun _ z => absurd z List.not_mem_nil⟩, List.forall_mem_cons.mpr ⟨⟨IT_Loop.cl, no_Loop_behind⟩, fun _ z => absurd z List.not_mem_nil⟩, List.forall_mem_cons.mpr ⟨⟨IT_Loop.cl, no_Loop_known⟩, fun _ z => absurd z List.not_mem_nil⟩, ⟨⟨gta_EVENT_ORDERS, gto_EVENT_ORDERS, gti_EVENT_ORDERS, gtn_EVENT_ORDERS, PySem.W.mg_of X G gtg_EVENT_ORDERS, gtl_EVENT_ORDERS, gtc_EVENT_ORDERS, gtd_EVENT_ORDERS, gtv_EVENT_ORDERS⟩⟩, ⟨⟨gta_STRETCH_ORDERS, gto_STRETCH_ORDERS, gti_STRETCH_ORDERS, gtn_STRETCH_ORDERS, PySem.W.mg_of X G gtg_STRETCH_ORDERS, gtl_STRETCH_ORDERS, gtc_STRETCH_ORDERS, gtd_STRETCH_ORDERS, gtv_STRETCH_ORDERS⟩⟩, ⟨⟨gta_TIMES, gto_TIMES, gti_TIMES, gtn_TIMES, PySem.W.mg_of X G gtg_TIMES, gtl_TIMES, gtc_TIMES, gtd_TIMES, gtv_TIMES⟩⟩, ⟨⟨gta_FORMS, gto_FORMS, gti_FORMS, gtn_FORMS, PySem.W.mg_of X G gtg_FORMS, gtl_FORMS, gtc_FORMS, gtd_FORMS, gtv_FORMS⟩⟩, ⟨⟨gta_ANSWERS, gto_ANSWERS, gti_ANSWERS, gtn_ANSWERS, PySem.W.mg_of X G gtg_ANSWERS, gtl_ANSWERS, gtc_ANSWERS, gtd_ANSWERS, gtv_ANSWERS⟩⟩, ⟨⟨gta_NUMBERS, gto_NUMBERS, gti_NUMBERS, gtn_NUMBERS, PySem.W.mg_of X G gtg_NUMBERS, gtl_NUMBERS, gtc_NUMBERS, gtd_NUMBERS, gtv_NUMBERS⟩⟩, ⟨List.forall_mem_cons.mpr ⟨⟨IT_Moments, nfx_Moments_Moments⟩, List.forall_mem_cons.mpr ⟨⟨IT_Answer, nfx_Moments_Answer⟩, List.forall_mem_cons.mpr ⟨⟨IT_Number, nfx_Moments_Number⟩, List.forall_mem_cons.mpr ⟨⟨IT_Loop, nfx_Moments_Loop⟩, fun _ z => absurd z List.not_mem_nil⟩⟩⟩⟩⟩, ⟨List.forall_mem_cons.mpr ⟨⟨IT_Moments, nfx_Answer_Moments⟩, List.forall_mem_cons.mpr ⟨⟨IT_Answer, nfx_Answer_Answer⟩, List.forall_mem_cons.mpr ⟨⟨IT_Number, nfx_Answer_Number⟩, List.forall_mem_cons.mpr ⟨⟨IT_Loop, nfx_Answer_Loop⟩, fun _ z => absurd z List.not_mem_nil⟩⟩⟩⟩⟩, ⟨List.forall_mem_cons.mpr ⟨⟨IT_Moments, nfx_Number_Moments⟩, List.forall_mem_cons.mpr ⟨⟨IT_Answer, nfx_Number_Answer⟩, List.forall_mem_cons.mpr ⟨⟨IT_Number, nfx_Number_Number⟩, List.forall_mem_cons.mpr ⟨⟨IT_Loop, nfx_Number_Loop⟩, fun _ z => absurd z List.not_mem_nil⟩⟩⟩⟩⟩, ⟨eo_Loop_init_behind, en_Loop_init_behind, el_Loop_init_behind, ec_Loop_init_behind, ed_Loop_init_behind⟩, ⟨eo_Loop_init_each, en_Loop_init_each, el_Loop_init_each, ec_Loop_init_each, ed_Loop_init_each⟩, ⟨eo_Loop_init_ahead, en_Loop_init_ahead, el_Loop_init_ahead, ec_Loop_init_ahead, ed_Loop_init_ahead⟩, ne_Moments, hm_Moments, ne_Answer, hm_Answer, ne_Number, hm_Number, trivial⟩
  have F_l_bag := fun_mk (st := s_l_bag) l_l_bag c_l_bag k_l_bag
  have b_l_bag := F_l_bag.binds (ps := ["_law_script", "_law_at"]) fun _ _ _ _ _ _ us hl => match us, hl with | [_, _], _ => rfl
  have F_l_terms := fun_mk (st := s_l_terms) l_l_terms c_l_terms k_l_terms
  have b_l_terms := F_l_terms.binds (ps := ["_law_kind"]) fun _ _ _ _ _ _ us hl => match us, hl with | [_], _ => rfl
  have F_check_order := fun_mk (st := s_check_order) l_check_order c_check_order k_check_order
  have b_check_order := F_check_order.binds (ps := ["order"]) fun _ _ _ _ _ _ us hl => match us, hl with | [_], _ => rfl
  have F_check_rules := fun_mk (st := s_check_rules) l_check_rules c_check_rules k_check_rules
  have b_check_rules := F_check_rules.binds (ps := ["part", "rules", "order"]) fun _ _ _ _ _ _ us hl => match us, hl with | [_, _, _], _ => rfl
  have F_Loop_init : FunD K "__init__" "Loop.__init__" (defArgs s_Loop_init) (defBody s_Loop_init) (defScope s_Loop_init) [] [(("ahead" : Str), (.ref (cm "()Loop.__init__.ahead"))), (("each" : Str), (.ref (cm "()Loop.__init__.each"))), (("behind" : Str), (.ref (cm "()Loop.__init__.behind")))] f_Loop_init _ := ⟨⟨oc_Loop_init, od_Loop_init, .none, .ref D_Loop_init, dc_Loop_init, pm_Loop_init, an_Loop_init, cd_Loop_init, ct_Loop_init, sl_Loop_init, rfl, l_Loop_init, c_Loop_init, .inl ⟨rfl, rfl⟩, .inr ⟨D_Loop_init, rfl, fun q hq => by (rcases List.mem_cons.mp hq with rfl | hq; exact ⟨_, n0_Loop_init, rfl⟩; rcases List.mem_cons.mp hq with rfl | hq; exact ⟨_, n1_Loop_init, rfl⟩; rcases List.mem_cons.mp hq with rfl | hq; exact ⟨_, n2_Loop_init, rfl⟩; exact absurd hq (List.not_mem_nil))⟩⟩, k_Loop_init⟩
  have W_Loop_init_1 : Fill K _ ["self", "order", "ahead", "each", "behind"] [(.ref (cm "()Loop.__init__.ahead")), (.ref (cm "()Loop.__init__.each")), (.ref (cm "()Loop.__init__.behind"))] := FunD.binds0 (ps := ["self", "order", "ahead", "each", "behind"]) F_Loop_init 2 (fun z => nomatch z) rfl fun _ _ _ _ _ _ us ks h1 h2 => match us, ks, h1, h2 with | [_, _], [_, _, _], _, _ => ⟨_, _, _, _, _, _, rfl, rfl, _, _, _, _, _, _, rfl, rfl, _, _, _, _, _, _, rfl, rfl, rfl⟩
  have F_check_word := fun_mk (st := s_check_word) l_check_word c_check_word k_check_word
  have b_check_word := F_check_word.binds (ps := ["word", "words"]) fun _ _ _ _ _ _ us hl => match us, hl with | [_, _], _ => rfl
  have F_check_ends := fun_mk (st := s_check_ends) l_check_ends c_check_ends k_check_ends
  have b_check_ends := F_check_ends.binds (ps := ["ends"]) fun _ _ _ _ _ _ us hl => match us, hl with | [_], _ => rfl
  have F_Moments_init : FunD K "__init__" "Moments.__init__" (defArgs s_Moments_init) (defBody s_Moments_init) (defScope s_Moments_init) [] [(("within" : Str), (.bl false)), (("form" : Str), (.str "one")), (("ends" : Str), (.str "half"))] f_Moments_init _ := ⟨⟨oc_Moments_init, od_Moments_init, .none, .ref D_Moments_init, dc_Moments_init, pm_Moments_init, an_Moments_init, cd_Moments_init, ct_Moments_init, sl_Moments_init, rfl, l_Moments_init, c_Moments_init, .inl ⟨rfl, rfl⟩, .inr ⟨D_Moments_init, rfl, fun q hq => by (rcases List.mem_cons.mp hq with rfl | hq; exact ⟨_, n0_Moments_init, rfl⟩; rcases List.mem_cons.mp hq with rfl | hq; exact ⟨_, n1_Moments_init, ⟨_, rfl⟩⟩; rcases List.mem_cons.mp hq with rfl | hq; exact ⟨_, n2_Moments_init, ⟨_, rfl⟩⟩; exact absurd hq (List.not_mem_nil))⟩⟩, k_Moments_init⟩
  have W_Moments_init_1_within_form_ends : FillK K _ ["self", "which", "within", "form", "ends"] 2 ["within", "form", "ends"] (fun vs zs => vs ++ zs) := (FunD.kbinds0 (ps := ["self", "which", "within", "form", "ends"]) F_Moments_init 2 ["within", "form", "ends"] [] (fun us mv ws => us ++ ws) (fun z => nomatch z) (fun _ h => nomatch h) (fun r1 r2 r3 => r1.append r3) fun _ _ _ _ _ _ us mv ws h1 h2 h3 => match us, mv, ws, h1, h2, h3 with | [_, _], [], [_, _, _], _, _, _ => rfl).elim fun _ h => ⟨_, h⟩
  have W_Moments_init_1 : Fill K _ ["self", "which", "within", "form", "ends"] [(.bl false), (.str "one"), (.str "half")] := FunD.binds0 (ps := ["self", "which", "within", "form", "ends"]) F_Moments_init 2 (fun z => nomatch z) rfl fun _ _ _ _ _ _ us ks h1 h2 => match us, ks, h1, h2 with | [_, _], [_, _, _], _, _ => ⟨_, _, _, _, _, _, rfl, rfl, _, _, _, _, _, _, rfl, rfl, _, _, _, _, _, _, rfl, rfl, rfl⟩
  have F_Moments_by : FunD K "by" "Moments.by" (defArgs s_Moments_by) (defBody s_Moments_by) (defScope s_Moments_by) [] [] f_Moments_by _ := ⟨⟨oc_Moments_by, od_Moments_by, .none, kV_Moments_by, dc_Moments_by, pm_Moments_by, an_Moments_by, cd_Moments_by, ct_Moments_by, sl_Moments_by, rfl, l_Moments_by, c_Moments_by, .inl ⟨rfl, rfl⟩, .inl rfl⟩, k_Moments_by⟩
  have W_Moments_by_1 : Fill K _ ["self", "ends"] [] := ⟨[], .nil, FunD.bindsN (ps := ["self", "ends"]) F_Moments_by fun _ _ _ _ _ _ us hl => match us, hl with | [_, _], _ => rfl⟩
  have F_Answer_init : FunD K "__init__" "Answer.__init__" (defArgs s_Answer_init) (defBody s_Answer_init) (defScope s_Answer_init) [] [(("ends" : Str), (.str "half"))] f_Answer_init _ := ⟨⟨oc_Answer_init, od_Answer_init, .none, .ref D_Answer_init, dc_Answer_init, pm_Answer_init, an_Answer_init, cd_Answer_init, ct_Answer_init, sl_Answer_init, rfl, l_Answer_init, c_Answer_init, .inl ⟨rfl, rfl⟩, .inr ⟨D_Answer_init, rfl, fun q hq => by (rcases List.mem_cons.mp hq with rfl | hq; exact ⟨_, n0_Answer_init, ⟨_, rfl⟩⟩; exact absurd hq (List.not_mem_nil))⟩⟩, k_Answer_init⟩
  have W_Answer_init_1_ends : FillK K _ ["self", "what", "ends"] 2 ["ends"] (fun vs zs => vs ++ zs) := (FunD.kbinds0 (ps := ["self", "what", "ends"]) F_Answer_init 2 ["ends"] [] (fun us mv ws => us ++ ws) (fun z => nomatch z) (fun _ h => nomatch h) (fun r1 r2 r3 => r1.append r3) fun _ _ _ _ _ _ us mv ws h1 h2 h3 => match us, mv, ws, h1, h2, h3 with | [_, _], [], [_], _, _, _ => rfl).elim fun _ h => ⟨_, h⟩
  have W_Answer_init_1 : Fill K _ ["self", "what", "ends"] [(.str "half")] := FunD.binds0 (ps := ["self", "what", "ends"]) F_Answer_init 2 (fun z => nomatch z) rfl fun _ _ _ _ _ _ us ks h1 h2 => match us, ks, h1, h2 with | [_, _], [_], _, _ => ⟨_, _, _, _, _, _, rfl, rfl, rfl⟩
  have F_Answer_by : FunD K "by" "Answer.by" (defArgs s_Answer_by) (defBody s_Answer_by) (defScope s_Answer_by) [] [] f_Answer_by _ := ⟨⟨oc_Answer_by, od_Answer_by, .none, kV_Answer_by, dc_Answer_by, pm_Answer_by, an_Answer_by, cd_Answer_by, ct_Answer_by, sl_Answer_by, rfl, l_Answer_by, c_Answer_by, .inl ⟨rfl, rfl⟩, .inl rfl⟩, k_Answer_by⟩
  have W_Answer_by_1 : Fill K _ ["self", "ends"] [] := ⟨[], .nil, FunD.bindsN (ps := ["self", "ends"]) F_Answer_by fun _ _ _ _ _ _ us hl => match us, hl with | [_, _], _ => rfl⟩
  have F_Number_init : FunD K "__init__" "Number.__init__" (defArgs s_Number_init) (defBody s_Number_init) (defScope s_Number_init) [] [(("ends" : Str), (.str "half"))] f_Number_init _ := ⟨⟨oc_Number_init, od_Number_init, .none, .ref D_Number_init, dc_Number_init, pm_Number_init, an_Number_init, cd_Number_init, ct_Number_init, sl_Number_init, rfl, l_Number_init, c_Number_init, .inl ⟨rfl, rfl⟩, .inr ⟨D_Number_init, rfl, fun q hq => by (rcases List.mem_cons.mp hq with rfl | hq; exact ⟨_, n0_Number_init, ⟨_, rfl⟩⟩; exact absurd hq (List.not_mem_nil))⟩⟩, k_Number_init⟩
  have W_Number_init_1_ends : FillK K _ ["self", "what", "ends"] 2 ["ends"] (fun vs zs => vs ++ zs) := (FunD.kbinds0 (ps := ["self", "what", "ends"]) F_Number_init 2 ["ends"] [] (fun us mv ws => us ++ ws) (fun z => nomatch z) (fun _ h => nomatch h) (fun r1 r2 r3 => r1.append r3) fun _ _ _ _ _ _ us mv ws h1 h2 h3 => match us, mv, ws, h1, h2, h3 with | [_, _], [], [_], _, _, _ => rfl).elim fun _ h => ⟨_, h⟩
  have W_Number_init_1 : Fill K _ ["self", "what", "ends"] [(.str "half")] := FunD.binds0 (ps := ["self", "what", "ends"]) F_Number_init 2 (fun z => nomatch z) rfl fun _ _ _ _ _ _ us ks h1 h2 => match us, ks, h1, h2 with | [_, _], [_], _, _ => ⟨_, _, _, _, _, _, rfl, rfl, rfl⟩
  have F_Number_by : FunD K "by" "Number.by" (defArgs s_Number_by) (defBody s_Number_by) (defScope s_Number_by) [] [] f_Number_by _ := ⟨⟨oc_Number_by, od_Number_by, .none, kV_Number_by, dc_Number_by, pm_Number_by, an_Number_by, cd_Number_by, ct_Number_by, sl_Number_by, rfl, l_Number_by, c_Number_by, .inl ⟨rfl, rfl⟩, .inl rfl⟩, k_Number_by⟩
  have W_Number_by_1 : Fill K _ ["self", "ends"] [] := ⟨[], .nil, FunD.bindsN (ps := ["self", "ends"]) F_Number_by fun _ _ _ _ _ _ us hl => match us, hl with | [_, _], _ => rfl⟩
  have F_l_take := fun_mk (st := s_l_take) l_l_take c_l_take k_l_take
  have b_l_take := F_l_take.binds (ps := ["_law_bag_here", "_law_many"]) fun _ _ _ _ _ _ us hl => match us, hl with | [_, _], _ => rfl
  have F_l_of := fun_mk (st := s_l_of) l_l_of c_l_of k_l_of
  have b_l_of := F_l_of.binds (ps := ["_law_bag_here", "_law_some"]) fun _ _ _ _ _ _ us hl => match us, hl with | [_, _], _ => rfl
  have F_l_wish := fun_mk (st := s_l_wish) l_l_wish c_l_wish k_l_wish
  have b_l_wish := F_l_wish.binds (ps := ["_law_kind", "_law_term", "_law_shape", "_law_inside_only", "_law_word"]) fun _ _ _ _ _ _ us hl => match us, hl with | [_, _, _, _, _], _ => rfl
  have F_l_orders := fun_mk (st := s_l_orders) l_l_orders c_l_orders k_l_orders
  have b_l_orders := F_l_orders.binds (ps := ["_law_kind"]) fun _ _ _ _ _ _ us hl => match us, hl with | [_], _ => rfl
  have F_Moments_uses_window := fun_mk (st := s_Moments_uses_window) l_Moments_uses_window c_Moments_uses_window k_Moments_uses_window
  have b_Moments_uses_window := F_Moments_uses_window.binds (ps := ["self"]) fun _ _ _ _ _ _ us hl => match us, hl with | [_], _ => rfl
  have F_Answer_uses_window := fun_mk (st := s_Answer_uses_window) l_Answer_uses_window c_Answer_uses_window k_Answer_uses_window
  have b_Answer_uses_window := F_Answer_uses_window.binds (ps := ["self"]) fun _ _ _ _ _ _ us hl => match us, hl with | [_], _ => rfl
  have F_Number_uses_window := fun_mk (st := s_Number_uses_window) l_Number_uses_window c_Number_uses_window k_Number_uses_window
  have b_Number_uses_window := F_Number_uses_window.binds (ps := ["self"]) fun _ _ _ _ _ _ us hl => match us, hl with | [_], _ => rfl
  have F_Moments_wants_begins := fun_mk (st := s_Moments_wants_begins) l_Moments_wants_begins c_Moments_wants_begins k_Moments_wants_begins
  have b_Moments_wants_begins := F_Moments_wants_begins.binds (ps := ["self"]) fun _ _ _ _ _ _ us hl => match us, hl with | [_], _ => rfl
  have F_Answer_wants_begins := fun_mk (st := s_Answer_wants_begins) l_Answer_wants_begins c_Answer_wants_begins k_Answer_wants_begins
  have b_Answer_wants_begins := F_Answer_wants_begins.binds (ps := ["self"]) fun _ _ _ _ _ _ us hl => match us, hl with | [_], _ => rfl
  have F_Number_wants_begins := fun_mk (st := s_Number_wants_begins) l_Number_wants_begins c_Number_wants_begins k_Number_wants_begins
  have b_Number_wants_begins := F_Number_wants_begins.binds (ps := ["self"]) fun _ _ _ _ _ _ us hl => match us, hl with | [_], _ => rfl
  have F_reads_events := fun_mk (st := s_reads_events) l_reads_events c_reads_events k_reads_events
  have b_reads_events := F_reads_events.binds (ps := ["order"]) fun _ _ _ _ _ _ us hl => match us, hl with | [_], _ => rfl
  have F_Loop_reads := fun_mk (st := s_Loop_reads) l_Loop_reads c_Loop_reads k_Loop_reads
  have b_Loop_reads := F_Loop_reads.binds (ps := ["self"]) fun _ _ _ _ _ _ us hl => match us, hl with | [_], _ => rfl
  have F_Moments_fits : FunD K "fits" "Moments.fits" (defArgs s_Moments_fits) (defBody s_Moments_fits) (defScope s_Moments_fits) [] [] f_Moments_fits _ := ⟨⟨oc_Moments_fits, od_Moments_fits, .none, kV_Moments_fits, dc_Moments_fits, pm_Moments_fits, an_Moments_fits, cd_Moments_fits, ct_Moments_fits, sl_Moments_fits, rfl, l_Moments_fits, c_Moments_fits, .inl ⟨rfl, rfl⟩, .inl rfl⟩, k_Moments_fits⟩
  have W_Moments_fits_1 : Fill K _ ["self", "loop"] [] := ⟨[], .nil, FunD.bindsN (ps := ["self", "loop"]) F_Moments_fits fun _ _ _ _ _ _ us hl => match us, hl with | [_, _], _ => rfl⟩
  have F_Answer_fits : FunD K "fits" "Answer.fits" (defArgs s_Answer_fits) (defBody s_Answer_fits) (defScope s_Answer_fits) [] [] f_Answer_fits _ := ⟨⟨oc_Answer_fits, od_Answer_fits, .none, kV_Answer_fits, dc_Answer_fits, pm_Answer_fits, an_Answer_fits, cd_Answer_fits, ct_Answer_fits, sl_Answer_fits, rfl, l_Answer_fits, c_Answer_fits, .inl ⟨rfl, rfl⟩, .inl rfl⟩, k_Answer_fits⟩
  have W_Answer_fits_1 : Fill K _ ["self", "loop"] [] := ⟨[], .nil, FunD.bindsN (ps := ["self", "loop"]) F_Answer_fits fun _ _ _ _ _ _ us hl => match us, hl with | [_, _], _ => rfl⟩
  have F_Number_fits : FunD K "fits" "Number.fits" (defArgs s_Number_fits) (defBody s_Number_fits) (defScope s_Number_fits) [] [] f_Number_fits _ := ⟨⟨oc_Number_fits, od_Number_fits, .none, kV_Number_fits, dc_Number_fits, pm_Number_fits, an_Number_fits, cd_Number_fits, ct_Number_fits, sl_Number_fits, rfl, l_Number_fits, c_Number_fits, .inl ⟨rfl, rfl⟩, .inl rfl⟩, k_Number_fits⟩
  have W_Number_fits_1 : Fill K _ ["self", "loop"] [] := ⟨[], .nil, FunD.bindsN (ps := ["self", "loop"]) F_Number_fits fun _ _ _ _ _ _ us hl => match us, hl with | [_, _], _ => rfl⟩
  have F_Moments_eq := fun_mk (st := s_Moments_eq) l_Moments_eq c_Moments_eq k_Moments_eq
  have b_Moments_eq := F_Moments_eq.binds (ps := ["self", "other"]) fun _ _ _ _ _ _ us hl => match us, hl with | [_, _], _ => rfl
  have F_Answer_eq := fun_mk (st := s_Answer_eq) l_Answer_eq c_Answer_eq k_Answer_eq
  have b_Answer_eq := F_Answer_eq.binds (ps := ["self", "other"]) fun _ _ _ _ _ _ us hl => match us, hl with | [_, _], _ => rfl
  have F_Number_eq := fun_mk (st := s_Number_eq) l_Number_eq c_Number_eq k_Number_eq
  have b_Number_eq := F_Number_eq.binds (ps := ["self", "other"]) fun _ _ _ _ _ _ us hl => match us, hl with | [_, _], _ => rfl
  have F_l_parts_forms := fun_mk (st := s_l_parts_forms) l_l_parts_forms c_l_parts_forms k_l_parts_forms
  have b_l_parts_forms := F_l_parts_forms.binds (ps := ["_law_wish_here", "_law_term", "_law_shape", "_law_inside_only", "_law_word"]) fun _ _ _ _ _ _ us hl => match us, hl with | [_, _, _, _, _], _ => rfl
  have F_law := fun_mk (st := s_law) l_law c_law k_law
  refine ⟨PySem.W.fnOf "law" "law" (defArgs s_law) (defBody s_law) (defScope s_law) .none kV_law dc_law pm_law an_law cd_law ct_law, fun s v => .of_eq rfl, fun bh _ _ => ?_⟩
  have E_BadOrder : ErrB l.prog w K mg bh "BadOrder" "order" (cm "BadOrder") fI_BadOrder _ := EF_BadOrder.errB (PySem.W.mg_of X G eg_BadOrder) eai_BadOrder eti_BadOrder FI_BadOrder bI_BadOrder ⟨rfl, rfl, rfl, by decide +kernel, rfl, by decide +kernel, by decide +kernel⟩ (by rfl) (by decide +kernel) (by decide +kernel) (by rfl) (by rfl)
  have E_TooMany : ErrB l.prog w K mg bh "TooMany" "limit" (cm "TooMany") fI_TooMany _ := EF_TooMany.errB (PySem.W.mg_of X G eg_TooMany) eai_TooMany eti_TooMany FI_TooMany bI_TooMany ⟨rfl, rfl, rfl, by decide +kernel, rfl, by decide +kernel, by decide +kernel⟩ (by rfl) (by decide +kernel) (by decide +kernel) (by rfl) (by rfl)
  have E_BadWish : ErrB l.prog w K mg bh "BadWish" "word" (cm "BadWish") fI_BadWish _ := EF_BadWish.errB (PySem.W.mg_of X G eg_BadWish) eai_BadWish eti_BadWish FI_BadWish bI_BadWish ⟨rfl, rfl, rfl, by decide +kernel, rfl, by decide +kernel, by decide +kernel⟩ (by rfl) (by decide +kernel) (by decide +kernel) (by rfl) (by rfl)
  have E_BadEnds : ErrB l.prog w K mg bh "BadEnds" "ends" (cm "BadEnds") fI_BadEnds _ := EF_BadEnds.errB (PySem.W.mg_of X G eg_BadEnds) eai_BadEnds eti_BadEnds FI_BadEnds bI_BadEnds ⟨rfl, rfl, rfl, by decide +kernel, rfl, by decide +kernel, by decide +kernel⟩ (by rfl) (by decide +kernel) (by decide +kernel) (by rfl) (by rfl)
  have R_l_bag : Rdy l.prog w K mg bh "_law_bag" 1 ["_law_script", "_law_at"] (spF (Gx.mk K cm none TT) 2 fn_l_bag) f_l_bag _ := ⟨ok_l_bag B T KI F_l_bag, PySem.W.mg_of X G a_l_bag, k_l_bag, b_l_bag⟩
  have R_l_terms : Rdy l.prog w K mg bh "_law_terms" 1 ["_law_kind"] (spF (Gx.mk K cm none TT) 1 fn_l_terms) f_l_terms _ := ⟨ok_l_terms B T KI F_l_terms, PySem.W.mg_of X G a_l_terms, k_l_terms, b_l_terms⟩
  have R_check_order : RdyX l.prog w K mg bh "check_order" 3 ["order"] (spD (Gx.mk K cm none TT) 1 fn_check_order) f_check_order _ := ⟨ok_check_order B T KI E_BadOrder F_check_order, PySem.W.mg_of X G a_check_order, k_check_order, b_check_order⟩
  have R_check_rules : RdyX l.prog w K mg bh "check_rules" 3 ["part", "rules", "order"] (spD (Gx.mk K cm none TT) 3 fn_check_rules) f_check_rules _ := ⟨ok_check_rules B T KI E_TooMany F_check_rules, PySem.W.mg_of X G a_check_rules, k_check_rules, b_check_rules⟩
  have R_Loop_init : RdyMkX l.prog w K mg bh "Loop" (cm "Loop") 4 ["self", "order", "ahead", "each", "behind"] (spD (Gx.mk K cm none TT) 5 fn_Loop_init) f_Loop_init _ := ⟨ok_Loop_init B T KI R_check_order R_check_rules F_Loop_init, ⟨mk_Loop, a_Loop_init, i_Loop_init, kc_Loop⟩, PySem.W.mg_of X G at_Loop⟩
  have R_check_word : RdyX l.prog w K mg bh "check_word" 3 ["word", "words"] (spD (Gx.mk K cm none TT) 2 fn_check_word) f_check_word _ := ⟨ok_check_word B T KI E_BadWish F_check_word, PySem.W.mg_of X G a_check_word, k_check_word, b_check_word⟩
  have R_check_ends : RdyX l.prog w K mg bh "check_ends" 3 ["ends"] (spD (Gx.mk K cm none TT) 1 fn_check_ends) f_check_ends _ := ⟨ok_check_ends B T KI E_BadEnds F_check_ends, PySem.W.mg_of X G a_check_ends, k_check_ends, b_check_ends⟩
  have R_Moments_init : RdyMkX l.prog w K mg bh "Moments" (cm "Moments") 4 ["self", "which", "within", "form", "ends"] (spD (Gx.mk K cm none TT) 5 fn_Moments_init) f_Moments_init _ := ⟨ok_Moments_init B T KI R_check_word R_check_ends F_Moments_init, ⟨mk_Moments, a_Moments_init, i_Moments_init, kc_Moments⟩, PySem.W.mg_of X G at_Moments⟩
  have R_Moments_by : RdyMm l.prog w K mg bh (cm "Moments") "by" 6 ["self", "ends"] (spD (Gx.mk K cm none TT) 2 fn_Moments_by) f_Moments_by _ := ⟨ok_Moments_by B T KI R_Moments_init W_Moments_init_1_within_form_ends F_Moments_by, ⟨a_Moments_by, i_Moments_by, k_Moments_by⟩, IT_Moments.cl⟩
  have R_Answer_init : RdyMkX l.prog w K mg bh "Answer" (cm "Answer") 4 ["self", "what", "ends"] (spD (Gx.mk K cm none TT) 3 fn_Answer_init) f_Answer_init _ := ⟨ok_Answer_init B T KI R_check_word R_check_ends F_Answer_init, ⟨mk_Answer, a_Answer_init, i_Answer_init, kc_Answer⟩, PySem.W.mg_of X G at_Answer⟩
  have R_Answer_by : RdyMm l.prog w K mg bh (cm "Answer") "by" 6 ["self", "ends"] (spD (Gx.mk K cm none TT) 2 fn_Answer_by) f_Answer_by _ := ⟨ok_Answer_by B T KI R_Answer_init W_Answer_init_1_ends F_Answer_by, ⟨a_Answer_by, i_Answer_by, k_Answer_by⟩, IT_Answer.cl⟩
  have R_Number_init : RdyMkX l.prog w K mg bh "Number" (cm "Number") 4 ["self", "what", "ends"] (spD (Gx.mk K cm none TT) 3 fn_Number_init) f_Number_init _ := ⟨ok_Number_init B T KI R_check_word R_check_ends F_Number_init, ⟨mk_Number, a_Number_init, i_Number_init, kc_Number⟩, PySem.W.mg_of X G at_Number⟩
  have R_Number_by : RdyMm l.prog w K mg bh (cm "Number") "by" 6 ["self", "ends"] (spD (Gx.mk K cm none TT) 2 fn_Number_by) f_Number_by _ := ⟨ok_Number_by B T KI R_Number_init W_Number_init_1_ends F_Number_by, ⟨a_Number_by, i_Number_by, k_Number_by⟩, IT_Number.cl⟩
  have R_l_take : Rdy l.prog w K mg bh "_law_take" 1 ["_law_bag_here", "_law_many"] (spD (Gx.mk K cm none TT) 2 fn_l_take) f_l_take _ := ⟨ok_l_take B T KI F_l_take, PySem.W.mg_of X G a_l_take, k_l_take, b_l_take⟩
  have R_l_of : Rdy l.prog w K mg bh "_law_of" 2 ["_law_bag_here", "_law_some"] (spD (Gx.mk K cm none TT) 2 fn_l_of) f_l_of _ := ⟨ok_l_of B T KI R_l_take F_l_of, PySem.W.mg_of X G a_l_of, k_l_of, b_l_of⟩
  have R_l_wish : Rdy l.prog w K mg bh "_law_wish" 6 ["_law_kind", "_law_term", "_law_shape", "_law_inside_only", "_law_word"] (spD (Gx.mk K cm none TT) 5 fn_l_wish) f_l_wish _ := ⟨ok_l_wish B T KI R_Moments_init R_Answer_init R_Number_init W_Moments_init_1_within_form_ends W_Answer_init_1_ends W_Number_init_1_ends F_l_wish, PySem.W.mg_of X G a_l_wish, k_l_wish, b_l_wish⟩
  have R_l_orders : Rdy l.prog w K mg bh "_law_orders" 1 ["_law_kind"] (spF (Gx.mk K cm none TT) 1 fn_l_orders) f_l_orders _ := ⟨ok_l_orders B T KI F_l_orders, PySem.W.mg_of X G a_l_orders, k_l_orders, b_l_orders⟩
  have R_Moments_uses_window : RdyPr l.prog w K mg bh (cm "Moments") "uses_window" 1 (spD (Gx.mk K cm none TT) 1 fn_Moments_uses_window) P_Moments_uses_window f_Moments_uses_window _ := ⟨ok_Moments_uses_window B T KI F_Moments_uses_window, ⟨a_Moments_uses_window, g_Moments_uses_window, t_Moments_uses_window, rest_Moments_uses_window, r_Moments_uses_window⟩, b_Moments_uses_window⟩
  have R_Answer_uses_window : RdyPr l.prog w K mg bh (cm "Answer") "uses_window" 1 (spD (Gx.mk K cm none TT) 1 fn_Answer_uses_window) P_Answer_uses_window f_Answer_uses_window _ := ⟨ok_Answer_uses_window B T KI F_Answer_uses_window, ⟨a_Answer_uses_window, g_Answer_uses_window, t_Answer_uses_window, rest_Answer_uses_window, r_Answer_uses_window⟩, b_Answer_uses_window⟩
  have R_Number_uses_window : RdyPr l.prog w K mg bh (cm "Number") "uses_window" 1 (spD (Gx.mk K cm none TT) 1 fn_Number_uses_window) P_Number_uses_window f_Number_uses_window _ := ⟨ok_Number_uses_window B T KI F_Number_uses_window, ⟨a_Number_uses_window, g_Number_uses_window, t_Number_uses_window, rest_Number_uses_window, r_Number_uses_window⟩, b_Number_uses_window⟩
  have R_Moments_wants_begins : RdyPr l.prog w K mg bh (cm "Moments") "wants_begins" 1 (spD (Gx.mk K cm none TT) 1 fn_Moments_wants_begins) P_Moments_wants_begins f_Moments_wants_begins _ := ⟨ok_Moments_wants_begins B T KI F_Moments_wants_begins, ⟨a_Moments_wants_begins, g_Moments_wants_begins, t_Moments_wants_begins, rest_Moments_wants_begins, r_Moments_wants_begins⟩, b_Moments_wants_begins⟩
  have R_Answer_wants_begins : RdyPr l.prog w K mg bh (cm "Answer") "wants_begins" 1 (spD (Gx.mk K cm none TT) 1 fn_Answer_wants_begins) P_Answer_wants_begins f_Answer_wants_begins _ := ⟨ok_Answer_wants_begins B T KI F_Answer_wants_begins, ⟨a_Answer_wants_begins, g_Answer_wants_begins, t_Answer_wants_begins, rest_Answer_wants_begins, r_Answer_wants_begins⟩, b_Answer_wants_begins⟩
  have R_Number_wants_begins : RdyPr l.prog w K mg bh (cm "Number") "wants_begins" 1 (spD (Gx.mk K cm none TT) 1 fn_Number_wants_begins) P_Number_wants_begins f_Number_wants_begins _ := ⟨ok_Number_wants_begins B T KI F_Number_wants_begins, ⟨a_Number_wants_begins, g_Number_wants_begins, t_Number_wants_begins, rest_Number_wants_begins, r_Number_wants_begins⟩, b_Number_wants_begins⟩
  have R_reads_events : Rdy l.prog w K mg bh "reads_events" 1 ["order"] (spD (Gx.mk K cm none TT) 1 fn_reads_events) f_reads_events _ := ⟨ok_reads_events B T KI F_reads_events, PySem.W.mg_of X G a_reads_events, k_reads_events, b_reads_events⟩
  have R_Loop_reads : RdyPr l.prog w K mg bh (cm "Loop") "reads" 2 (spD (Gx.mk K cm none TT) 1 fn_Loop_reads) P_Loop_reads f_Loop_reads _ := ⟨ok_Loop_reads B T KI R_reads_events F_Loop_reads, ⟨a_Loop_reads, g_Loop_reads, t_Loop_reads, rest_Loop_reads, r_Loop_reads⟩, b_Loop_reads⟩
  have R_Moments_fits : RdyMm l.prog w K mg bh (cm "Moments") "fits" 4 ["self", "loop"] (spD (Gx.mk K cm none TT) 2 fn_Moments_fits) f_Moments_fits _ := ⟨ok_Moments_fits B T KI R_Loop_reads F_Moments_fits, ⟨a_Moments_fits, i_Moments_fits, k_Moments_fits⟩, IT_Moments.cl⟩
  have R_Answer_fits : RdyMm l.prog w K mg bh (cm "Answer") "fits" 4 ["self", "loop"] (spD (Gx.mk K cm none TT) 2 fn_Answer_fits) f_Answer_fits _ := ⟨ok_Answer_fits B T KI R_Loop_reads F_Answer_fits, ⟨a_Answer_fits, i_Answer_fits, k_Answer_fits⟩, IT_Answer.cl⟩
  have R_Number_fits : RdyMm l.prog w K mg bh (cm "Number") "fits" 4 ["self", "loop"] (spD (Gx.mk K cm none TT) 2 fn_Number_fits) f_Number_fits _ := ⟨ok_Number_fits B T KI R_Loop_reads F_Number_fits, ⟨a_Number_fits, i_Number_fits, k_Number_fits⟩, IT_Number.cl⟩
  have R_Moments_eq : RdyOp l.prog w K mg bh (cm "Moments") "__eq__" 1 (spD (Gx.mk K cm none TT) 2 fn_Moments_eq) f_Moments_eq := ⟨FnR.imp (FnOk.raw (ok_Moments_eq B T KI F_Moments_eq) b_Moments_eq .nil) (fun vs H Q E h => by rw [List.append_nil]; exact h), a_Moments_eq, i_Moments_eq⟩
  have R_Answer_eq : RdyOp l.prog w K mg bh (cm "Answer") "__eq__" 1 (spD (Gx.mk K cm none TT) 2 fn_Answer_eq) f_Answer_eq := ⟨FnR.imp (FnOk.raw (ok_Answer_eq B T KI F_Answer_eq) b_Answer_eq .nil) (fun vs H Q E h => by rw [List.append_nil]; exact h), a_Answer_eq, i_Answer_eq⟩
  have R_Number_eq : RdyOp l.prog w K mg bh (cm "Number") "__eq__" 1 (spD (Gx.mk K cm none TT) 2 fn_Number_eq) f_Number_eq := ⟨FnR.imp (FnOk.raw (ok_Number_eq B T KI F_Number_eq) b_Number_eq .nil) (fun vs H Q E h => by rw [List.append_nil]; exact h), a_Number_eq, i_Number_eq⟩
  have R_l_parts_forms : Rdy l.prog w K mg bh "_law_parts_forms" 7 ["_law_wish_here", "_law_term", "_law_shape", "_law_inside_only", "_law_word"] (spD (Gx.mk K cm none TT) 5 fn_l_parts_forms) f_l_parts_forms _ := ⟨ok_l_parts_forms B T KI R_l_wish R_Moments_eq R_Answer_eq R_Number_eq F_l_parts_forms, PySem.W.mg_of X G a_l_parts_forms, k_l_parts_forms, b_l_parts_forms⟩
  exact FnG.imp (ok_law B T KI R_l_bag R_l_terms R_Loop_init R_Moments_init R_Moments_by R_Answer_init R_Answer_by R_Number_init R_Number_by R_l_take R_l_of R_l_wish R_l_orders R_Moments_uses_window R_Answer_uses_window R_Number_uses_window R_Moments_wants_begins R_Answer_wants_begins R_Number_wants_begins R_Moments_fits R_Answer_fits R_Number_fits R_Moments_eq R_Answer_eq R_Number_eq R_l_parts_forms W_Moments_init_1_within_form_ends W_Loop_init_1 W_Moments_fits_1 W_Answer_fits_1 W_Number_fits_1 W_Moments_by_1 W_Answer_by_1 W_Number_by_1 W_Answer_init_1 W_Moments_init_1 W_Number_init_1 F_law) (law_sp fun ns hn => law_run ns hn)
end
end Spk
open PySem PySem.W PyProof.Rows
set_option maxHeartbeats 0 in
theorem PySem.Challenge.cw_spanloops_k38_wishes_made_holds : PySem.Challenge.rw_spanloops_k38_wishes_made.Holds := by
  refine Spk.topOf ?_
  k_fill
  refine Spk.walkG (l := PySem.Challenge.rw_spanloops_k38_wishes_made) (n := 63) (k := 8) (x := "_law_script") (sp := fun w => Spk.sp_law _) rfl (by decide) rfl ⟨rfl, by decide, by decide⟩ (fun w h Y => by first | exact PySem.W.kIn_of Y | exact PySem.W.km_in_of Y) ?F (fun _ _ a ns hl _ hS => ⟨a, ns, rfl, hS, hl, fun _ => rfl⟩)
  case F =>
    intro w mg fa h KX G hmg
    refine' Spk.all_mk KX G hmg ?z_abs ?z_any ?z_bool ?z_enumerate ?z_int ?z_isinstance ?z_len ?z_max ?z_min ?z_range ?z_set ?z_sorted ?z_str ?z_tuple ?c_FIRST ?c_LAST ?c_FAR ?e_g ?e_rd ?e_ga ?e_1 ?e_2 ?eg_BadOrder ?ex_BadOrder ?esa_BadOrder ?ega_BadOrder ?egg_BadOrder ?enf_BadOrder ?ekC_BadOrder ?eeC_BadOrder ?etC_BadOrder ?ehC_BadOrder ?eiC_BadOrder ?esC_BadOrder ?eai_BadOrder ?eti_BadOrder ?eli_BadOrder ?eci_BadOrder ?eki_BadOrder ?eg_TooMany ?ex_TooMany ?esa_TooMany ?ega_TooMany ?egg_TooMany ?enf_TooMany ?ekC_TooMany ?eeC_TooMany ?etC_TooMany ?ehC_TooMany ?eiC_TooMany ?esC_TooMany ?eai_TooMany ?eti_TooMany ?eli_TooMany ?eci_TooMany ?eki_TooMany ?eg_BadWish ?ex_BadWish ?esa_BadWish ?ega_BadWish ?egg_BadWish ?enf_BadWish ?ekC_BadWish ?eeC_BadWish ?etC_BadWish ?ehC_BadWish ?eiC_BadWish ?esC_BadWish ?eai_BadWish ?eti_BadWish ?eli_BadWish ?eci_BadWish ?eki_BadWish ?eg_BadEnds ?ex_BadEnds ?esa_BadEnds ?ega_BadEnds ?egg_BadEnds ?enf_BadEnds ?ekC_BadEnds ?eeC_BadEnds ?etC_BadEnds ?ehC_BadEnds ?eiC_BadEnds ?esC_BadEnds ?eai_BadEnds ?eti_BadEnds ?eli_BadEnds ?eci_BadEnds ?eki_BadEnds ?at_Moments ?pg_Moments ?hd_Moments ?po_Moments ?sa_Moments ?mk_Moments ?kc_Moments ?no_Moments_which ?no_Moments_within ?no_Moments_form ?no_Moments_ends ?ha_Moments ?hm_Moments ?rd_Moments ?ga_Moments ?is_Moments ?ty_Moments ?ss_Moments ?se_Moments ?at_Answer ?pg_Answer ?hd_Answer ?po_Answer ?sa_Answer ?mk_Answer ?kc_Answer ?no_Answer_what ?no_Answer_ends ?ha_Answer ?hm_Answer ?rd_Answer ?ga_Answer ?is_Answer ?ty_Answer ?ss_Answer ?se_Answer ?at_Number ?pg_Number ?hd_Number ?po_Number ?sa_Number ?mk_Number ?kc_Number ?no_Number_what ?no_Number_ends ?ha_Number ?hm_Number ?rd_Number ?ga_Number ?is_Number ?ty_Number ?ss_Number ?se_Number ?at_Loop ?pg_Loop ?hd_Loop ?po_Loop ?sa_Loop ?mk_Loop ?kc_Loop ?no_Loop_order ?no_Loop_ahead ?no_Loop_each ?no_Loop_behind ?no_Loop_known ?ha_Loop ?hm_Loop ?rd_Loop ?ga_Loop ?is_Loop ?ty_Loop ?ss_Loop ?se_Loop ?sx_Moments_Answer ?sx_Moments_Number ?sx_Moments_Loop ?sx_Answer_Moments ?sx_Answer_Number ?sx_Answer_Loop ?sx_Number_Moments ?sx_Number_Answer ?sx_Number_Loop ?sx_Loop_Moments ?sx_Loop_Answer ?sx_Loop_Number ?at_Wish ?is_Wish ?ty_Wish ?ss_Wish ?sx_Moments_Wish ?sx_Answer_Wish ?sx_Number_Wish ?sx_Loop_Wish ?ic_n ?ic_t ?a_l_bag ?l_l_bag ?c_l_bag ?k_l_bag ?a_l_terms ?l_l_terms ?c_l_terms ?k_l_terms ?a_check_order ?l_check_order ?c_check_order ?k_check_order ?a_check_rules ?l_check_rules ?c_check_rules ?k_check_rules ?a_Loop_init ?l_Loop_init ?c_Loop_init ?k_Loop_init ?i_Loop_init ?n0_Loop_init ?el_Loop_init_ahead ?ec_Loop_init_ahead ?ed_Loop_init_ahead ?n1_Loop_init ?el_Loop_init_each ?ec_Loop_init_each ?ed_Loop_init_each ?n2_Loop_init ?el_Loop_init_behind ?ec_Loop_init_behind ?ed_Loop_init_behind ?a_check_word ?l_check_word ?c_check_word ?k_check_word ?a_check_ends ?l_check_ends ?c_check_ends ?k_check_ends ?a_Moments_init ?l_Moments_init ?c_Moments_init ?k_Moments_init ?i_Moments_init ?n0_Moments_init ?n1_Moments_init ?n2_Moments_init ?a_Moments_by ?l_Moments_by ?c_Moments_by ?k_Moments_by ?i_Moments_by ?a_Answer_init ?l_Answer_init ?c_Answer_init ?k_Answer_init ?i_Answer_init ?n0_Answer_init ?a_Answer_by ?l_Answer_by ?c_Answer_by ?k_Answer_by ?i_Answer_by ?a_Number_init ?l_Number_init ?c_Number_init ?k_Number_init ?i_Number_init ?n0_Number_init ?a_Number_by ?l_Number_by ?c_Number_by ?k_Number_by ?i_Number_by ?a_l_take ?l_l_take ?c_l_take ?k_l_take ?a_l_of ?l_l_of ?c_l_of ?k_l_of ?a_l_wish ?l_l_wish ?c_l_wish ?k_l_wish ?a_l_orders ?l_l_orders ?c_l_orders ?k_l_orders ?a_Moments_uses_window ?g_Moments_uses_window ?t_Moments_uses_window ?r_Moments_uses_window ?l_Moments_uses_window ?c_Moments_uses_window ?k_Moments_uses_window ?a_Answer_uses_window ?g_Answer_uses_window ?t_Answer_uses_window ?r_Answer_uses_window ?l_Answer_uses_window ?c_Answer_uses_window ?k_Answer_uses_window ?a_Number_uses_window ?g_Number_uses_window ?t_Number_uses_window ?r_Number_uses_window ?l_Number_uses_window ?c_Number_uses_window ?k_Number_uses_window ?a_Moments_wants_begins ?g_Moments_wants_begins ?t_Moments_wants_begins ?r_Moments_wants_begins ?l_Moments_wants_begins ?c_Moments_wants_begins ?k_Moments_wants_begins ?a_Answer_wants_begins ?g_Answer_wants_begins ?t_Answer_wants_begins ?r_Answer_wants_begins ?l_Answer_wants_begins ?c_Answer_wants_begins ?k_Answer_wants_begins ?a_Number_wants_begins ?g_Number_wants_begins ?t_Number_wants_begins ?r_Number_wants_begins ?l_Number_wants_begins ?c_Number_wants_begins ?k_Number_wants_begins ?a_reads_events ?l_reads_events ?c_reads_events ?k_reads_events ?a_Loop_reads ?g_Loop_reads ?t_Loop_reads ?r_Loop_reads ?l_Loop_reads ?c_Loop_reads ?k_Loop_reads ?a_Moments_fits ?l_Moments_fits ?c_Moments_fits ?k_Moments_fits ?i_Moments_fits ?a_Answer_fits ?l_Answer_fits ?c_Answer_fits ?k_Answer_fits ?i_Answer_fits ?a_Number_fits ?l_Number_fits ?c_Number_fits ?k_Number_fits ?i_Number_fits ?a_Moments_eq ?l_Moments_eq ?c_Moments_eq ?k_Moments_eq ?i_Moments_eq ?a_Answer_eq ?l_Answer_eq ?c_Answer_eq ?k_Answer_eq ?i_Answer_eq ?a_Number_eq ?l_Number_eq ?c_Number_eq ?k_Number_eq ?i_Number_eq ?a_l_parts_forms ?l_l_parts_forms ?c_l_parts_forms ?k_l_parts_forms ?a_law ?l_law ?c_law ?k_law ?gtg_EVENT_ORDERS ?gtl_EVENT_ORDERS ?gtc_EVENT_ORDERS ?gtd_EVENT_ORDERS ?gtv_EVENT_ORDERS ?gtg_STRETCH_ORDERS ?gtl_STRETCH_ORDERS ?gtc_STRETCH_ORDERS ?gtd_STRETCH_ORDERS ?gtv_STRETCH_ORDERS ?gtg_TIMES ?gtl_TIMES ?gtc_TIMES ?gtd_TIMES ?gtv_TIMES ?gtg_FORMS ?gtl_FORMS ?gtc_FORMS ?gtd_FORMS ?gtv_FORMS ?gtg_ANSWERS ?gtl_ANSWERS ?gtc_ANSWERS ?gtd_ANSWERS ?gtv_ANSWERS ?gtg_NUMBERS ?gtl_NUMBERS ?gtc_NUMBERS ?gtd_NUMBERS ?gtv_NUMBERS ?nfx_Moments_Loop ?nfx_Moments_Number ?nfx_Moments_Answer ?nfx_Moments_Moments ?nfx_Answer_Loop ?nfx_Answer_Number ?nfx_Answer_Answer ?nfx_Answer_Moments ?nfx_Number_Loop ?nfx_Number_Number ?nfx_Number_Answer ?nfx_Number_Moments ?ne_Moments ?ne_Answer ?ne_Number
    (case z_abs => k_is)
    (case z_any => k_is)
    (case z_bool => k_is)
    (case z_enumerate => k_is)
    (case z_int => k_is)
    (case z_isinstance => k_is)
    (case z_len => k_is)
    (case z_max => k_is)
    (case z_min => k_is)
    (case z_range => k_is)
    (case z_set => k_is)
    (case z_sorted => k_is)
    (case z_str => k_is)
    (case z_tuple => k_is)
    (case c_FIRST => k_is)
    (case c_LAST => k_is)
    (case c_FAR => k_is)
    (case e_g => k_is)
    (case e_rd => k_is)
    (case e_ga => k_is)
    (case e_1 => k_is)
    (case e_2 => k_is)
    (case eg_BadOrder => k_is)
    (case ex_BadOrder => k_is)
    (case esa_BadOrder => k_is)
    (case ega_BadOrder => k_is)
    (case egg_BadOrder => k_is)
    (case enf_BadOrder => k_is)
    (case ekC_BadOrder => k_is)
    (case eeC_BadOrder => k_is)
    (case etC_BadOrder => k_is)
    (case ehC_BadOrder => k_is)
    (case eiC_BadOrder => k_is)
    (case esC_BadOrder => k_is)
    (case eai_BadOrder => k_is)
    (case eti_BadOrder => k_is)
    (case eli_BadOrder => k_is)
    (case eci_BadOrder => k_is)
    (case eki_BadOrder => k_is)
    (case eg_TooMany => k_is)
    (case ex_TooMany => k_is)
    (case esa_TooMany => k_is)
    (case ega_TooMany => k_is)
    (case egg_TooMany => k_is)
    (case enf_TooMany => k_is)
    (case ekC_TooMany => k_is)
    (case eeC_TooMany => k_is)
    (case etC_TooMany => k_is)
    (case ehC_TooMany => k_is)
    (case eiC_TooMany => k_is)
    (case esC_TooMany => k_is)
    (case eai_TooMany => k_is)
    (case eti_TooMany => k_is)
    (case eli_TooMany => k_is)
    (case eci_TooMany => k_is)
    (case eki_TooMany => k_is)
    (case eg_BadWish => k_is)
    (case ex_BadWish => k_is)
    (case esa_BadWish => k_is)
    (case ega_BadWish => k_is)
    (case egg_BadWish => k_is)
    (case enf_BadWish => k_is)
    (case ekC_BadWish => k_is)
    (case eeC_BadWish => k_is)
    (case etC_BadWish => k_is)
    (case ehC_BadWish => k_is)
    (case eiC_BadWish => k_is)
    (case esC_BadWish => k_is)
    (case eai_BadWish => k_is)
    (case eti_BadWish => k_is)
    (case eli_BadWish => k_is)
    (case eci_BadWish => k_is)
    (case eki_BadWish => k_is)
    (case eg_BadEnds => k_is)
    (case ex_BadEnds => k_is)
    (case esa_BadEnds => k_is)
    (case ega_BadEnds => k_is)
    (case egg_BadEnds => k_is)
    (case enf_BadEnds => k_is)
    (case ekC_BadEnds => k_is)
    (case eeC_BadEnds => k_is)
    (case etC_BadEnds => k_is)
    (case ehC_BadEnds => k_is)
    (case eiC_BadEnds => k_is)
    (case esC_BadEnds => k_is)
    (case eai_BadEnds => k_is)
    (case eti_BadEnds => k_is)
    (case eli_BadEnds => k_is)
    (case eci_BadEnds => k_is)
    (case eki_BadEnds => k_is)
    (case at_Moments => k_is)
    (case pg_Moments => k_is)
    (case hd_Moments => k_is)
    (case po_Moments => k_is)
    (case sa_Moments => k_is)
    (case mk_Moments => k_is)
    (case kc_Moments => k_is)
    (case no_Moments_which => k_is)
    (case no_Moments_within => k_is)
    (case no_Moments_form => k_is)
    (case no_Moments_ends => k_is)
    (case ha_Moments => k_is)
    (case hm_Moments => k_is)
    (case rd_Moments => k_is)
    (case ga_Moments => k_is)
    (case is_Moments => k_is)
    (case ty_Moments => k_is)
    (case ss_Moments => k_is)
    (case se_Moments => k_is)
    (case at_Answer => k_is)
    (case pg_Answer => k_is)
    (case hd_Answer => k_is)
    (case po_Answer => k_is)
    (case sa_Answer => k_is)
    (case mk_Answer => k_is)
    (case kc_Answer => k_is)
    (case no_Answer_what => k_is)
    (case no_Answer_ends => k_is)
    (case ha_Answer => k_is)
    (case hm_Answer => k_is)
    (case rd_Answer => k_is)
    (case ga_Answer => k_is)
    (case is_Answer => k_is)
    (case ty_Answer => k_is)
    (case ss_Answer => k_is)
    (case se_Answer => k_is)
    (case at_Number => k_is)
    (case pg_Number => k_is)
    (case hd_Number => k_is)
    (case po_Number => k_is)
    (case sa_Number => k_is)
    (case mk_Number => k_is)
    (case kc_Number => k_is)
    (case no_Number_what => k_is)
    (case no_Number_ends => k_is)
    (case ha_Number => k_is)
    (case hm_Number => k_is)
    (case rd_Number => k_is)
    (case ga_Number => k_is)
    (case is_Number => k_is)
    (case ty_Number => k_is)
    (case ss_Number => k_is)
    (case se_Number => k_is)
    (case at_Loop => k_is)
    (case pg_Loop => k_is)
    (case hd_Loop => k_is)
    (case po_Loop => k_is)
    (case sa_Loop => k_is)
    (case mk_Loop => k_is)
    (case kc_Loop => k_is)
    (case no_Loop_order => k_is)
    (case no_Loop_ahead => k_is)
    (case no_Loop_each => k_is)
    (case no_Loop_behind => k_is)
    (case no_Loop_known => k_is)
    (case ha_Loop => k_is)
    (case hm_Loop => k_is)
    (case rd_Loop => k_is)
    (case ga_Loop => k_is)
    (case is_Loop => k_is)
    (case ty_Loop => k_is)
    (case ss_Loop => k_is)
    (case se_Loop => k_is)
    (case sx_Moments_Answer => k_is)
    (case sx_Moments_Number => k_is)
    (case sx_Moments_Loop => k_is)
    (case sx_Answer_Moments => k_is)
    (case sx_Answer_Number => k_is)
    (case sx_Answer_Loop => k_is)
    (case sx_Number_Moments => k_is)
    (case sx_Number_Answer => k_is)
    (case sx_Number_Loop => k_is)
    (case sx_Loop_Moments => k_is)
    (case sx_Loop_Answer => k_is)
    (case sx_Loop_Number => k_is)
    (case at_Wish => k_is)
    (case is_Wish => k_is)
    (case ty_Wish => k_is)
    (case ss_Wish => k_is)
    (case sx_Moments_Wish => k_is)
    (case sx_Answer_Wish => k_is)
    (case sx_Number_Wish => k_is)
    (case sx_Loop_Wish => k_is)
    (case ic_n => k_is)
    (case ic_t => k_is)
    (case a_l_bag => k_is)
    (case l_l_bag => k_is)
    (case c_l_bag => k_is)
    (case k_l_bag => k_is)
    (case a_l_terms => k_is)
    (case l_l_terms => k_is)
    (case c_l_terms => k_is)
    (case k_l_terms => k_is)
    (case a_check_order => k_is)
    (case l_check_order => k_is)
    (case c_check_order => k_is)
    (case k_check_order => k_is)
    (case a_check_rules => k_is)
    (case l_check_rules => k_is)
    (case c_check_rules => k_is)
    (case k_check_rules => k_is)
    (case a_Loop_init => k_is)
    (case l_Loop_init => k_is)
    (case c_Loop_init => k_is)
    (case k_Loop_init => k_is)
    (case i_Loop_init => k_is)
    (case n0_Loop_init => k_is)
    (case el_Loop_init_ahead => k_is)
    (case ec_Loop_init_ahead => first | rfl | k_is)
    (case ed_Loop_init_ahead => first | rfl | k_is)
    (case n1_Loop_init => k_is)
    (case el_Loop_init_each => k_is)
    (case ec_Loop_init_each => first | rfl | k_is)
    (case ed_Loop_init_each => first | rfl | k_is)
    (case n2_Loop_init => k_is)
    (case el_Loop_init_behind => k_is)
    (case ec_Loop_init_behind => first | rfl | k_is)
    (case ed_Loop_init_behind => first | rfl | k_is)
    (case a_check_word => k_is)
    (case l_check_word => k_is)
    (case c_check_word => k_is)
    (case k_check_word => k_is)
    (case a_check_ends => k_is)
    (case l_check_ends => k_is)
    (case c_check_ends => k_is)
    (case k_check_ends => k_is)
    (case a_Moments_init => k_is)
    (case l_Moments_init => k_is)
    (case c_Moments_init => k_is)
    (case k_Moments_init => k_is)
    (case i_Moments_init => k_is)
    (case n0_Moments_init => k_is)
    (case n1_Moments_init => k_is)
    (case n2_Moments_init => k_is)
    (case a_Moments_by => k_is)
    (case l_Moments_by => k_is)
    (case c_Moments_by => k_is)
    (case k_Moments_by => k_is)
    (case i_Moments_by => k_is)
    (case a_Answer_init => k_is)
    (case l_Answer_init => k_is)
    (case c_Answer_init => k_is)
    (case k_Answer_init => k_is)
    (case i_Answer_init => k_is)
    (case n0_Answer_init => k_is)
    (case a_Answer_by => k_is)
    (case l_Answer_by => k_is)
    (case c_Answer_by => k_is)
    (case k_Answer_by => k_is)
    (case i_Answer_by => k_is)
    (case a_Number_init => k_is)
    (case l_Number_init => k_is)
    (case c_Number_init => k_is)
    (case k_Number_init => k_is)
    (case i_Number_init => k_is)
    (case n0_Number_init => k_is)
    (case a_Number_by => k_is)
    (case l_Number_by => k_is)
    (case c_Number_by => k_is)
    (case k_Number_by => k_is)
    (case i_Number_by => k_is)
    (case a_l_take => k_is)
    (case l_l_take => k_is)
    (case c_l_take => k_is)
    (case k_l_take => k_is)
    (case a_l_of => k_is)
    (case l_l_of => k_is)
    (case c_l_of => k_is)
    (case k_l_of => k_is)
    (case a_l_wish => k_is)
    (case l_l_wish => k_is)
    (case c_l_wish => k_is)
    (case k_l_wish => k_is)
    (case a_l_orders => k_is)
    (case l_l_orders => k_is)
    (case c_l_orders => k_is)
    (case k_l_orders => k_is)
    (case a_Moments_uses_window => k_is)
    (case g_Moments_uses_window => k_is)
    (case t_Moments_uses_window => k_is)
    (case r_Moments_uses_window => k_is)
    (case l_Moments_uses_window => k_is)
    (case c_Moments_uses_window => k_is)
    (case k_Moments_uses_window => k_is)
    (case a_Answer_uses_window => k_is)
    (case g_Answer_uses_window => k_is)
    (case t_Answer_uses_window => k_is)
    (case r_Answer_uses_window => k_is)
    (case l_Answer_uses_window => k_is)
    (case c_Answer_uses_window => k_is)
    (case k_Answer_uses_window => k_is)
    (case a_Number_uses_window => k_is)
    (case g_Number_uses_window => k_is)
    (case t_Number_uses_window => k_is)
    (case r_Number_uses_window => k_is)
    (case l_Number_uses_window => k_is)
    (case c_Number_uses_window => k_is)
    (case k_Number_uses_window => k_is)
    (case a_Moments_wants_begins => k_is)
    (case g_Moments_wants_begins => k_is)
    (case t_Moments_wants_begins => k_is)
    (case r_Moments_wants_begins => k_is)
    (case l_Moments_wants_begins => k_is)
    (case c_Moments_wants_begins => k_is)
    (case k_Moments_wants_begins => k_is)
    (case a_Answer_wants_begins => k_is)
    (case g_Answer_wants_begins => k_is)
    (case t_Answer_wants_begins => k_is)
    (case r_Answer_wants_begins => k_is)
    (case l_Answer_wants_begins => k_is)
    (case c_Answer_wants_begins => k_is)
    (case k_Answer_wants_begins => k_is)
    (case a_Number_wants_begins => k_is)
    (case g_Number_wants_begins => k_is)
    (case t_Number_wants_begins => k_is)
    (case r_Number_wants_begins => k_is)
    (case l_Number_wants_begins => k_is)
    (case c_Number_wants_begins => k_is)
    (case k_Number_wants_begins => k_is)
    (case a_reads_events => k_is)
    (case l_reads_events => k_is)
    (case c_reads_events => k_is)
    (case k_reads_events => k_is)
    (case a_Loop_reads => k_is)
    (case g_Loop_reads => k_is)
    (case t_Loop_reads => k_is)
    (case r_Loop_reads => k_is)
    (case l_Loop_reads => k_is)
    (case c_Loop_reads => k_is)
    (case k_Loop_reads => k_is)
    (case a_Moments_fits => k_is)
    (case l_Moments_fits => k_is)
    (case c_Moments_fits => k_is)
    (case k_Moments_fits => k_is)
    (case i_Moments_fits => k_is)
    (case a_Answer_fits => k_is)
    (case l_Answer_fits => k_is)
    (case c_Answer_fits => k_is)
    (case k_Answer_fits => k_is)
    (case i_Answer_fits => k_is)
    (case a_Number_fits => k_is)
    (case l_Number_fits => k_is)
    (case c_Number_fits => k_is)
    (case k_Number_fits => k_is)
    (case i_Number_fits => k_is)
    (case a_Moments_eq => k_is)
    (case l_Moments_eq => k_is)
    (case c_Moments_eq => k_is)
    (case k_Moments_eq => k_is)
    (case i_Moments_eq => k_is)
    (case a_Answer_eq => k_is)
    (case l_Answer_eq => k_is)
    (case c_Answer_eq => k_is)
    (case k_Answer_eq => k_is)
    (case i_Answer_eq => k_is)
    (case a_Number_eq => k_is)
    (case l_Number_eq => k_is)
    (case c_Number_eq => k_is)
    (case k_Number_eq => k_is)
    (case i_Number_eq => k_is)
    (case a_l_parts_forms => k_is)
    (case l_l_parts_forms => k_is)
    (case c_l_parts_forms => k_is)
    (case k_l_parts_forms => k_is)
    (case a_law => k_is)
    (case l_law => k_is)
    (case c_law => k_is)
    (case k_law => k_is)
    (case gtg_EVENT_ORDERS => k_is)
    (case gtl_EVENT_ORDERS => k_is)
    (case gtc_EVENT_ORDERS => first | rfl | k_is)
    (case gtd_EVENT_ORDERS => first | rfl | k_is)
    (case gtv_EVENT_ORDERS => exact .cons ⟨_, rfl⟩ (.cons ⟨_, rfl⟩ (.cons ⟨_, rfl⟩ (.nil))))
    (case gtg_STRETCH_ORDERS => k_is)
    (case gtl_STRETCH_ORDERS => k_is)
    (case gtc_STRETCH_ORDERS => first | rfl | k_is)
    (case gtd_STRETCH_ORDERS => first | rfl | k_is)
    (case gtv_STRETCH_ORDERS => exact .cons ⟨_, rfl⟩ (.cons ⟨_, rfl⟩ (.cons ⟨_, rfl⟩ (.cons ⟨_, rfl⟩ (.cons ⟨_, rfl⟩ (.cons ⟨_, rfl⟩ (.cons ⟨_, rfl⟩ (.nil))))))))
    (case gtg_TIMES => k_is)
    (case gtl_TIMES => k_is)
    (case gtc_TIMES => first | rfl | k_is)
    (case gtd_TIMES => first | rfl | k_is)
    (case gtv_TIMES => exact .cons ⟨_, rfl⟩ (.cons ⟨_, rfl⟩ (.cons ⟨_, rfl⟩ (.cons ⟨_, rfl⟩ (.cons ⟨_, rfl⟩ (.cons ⟨_, rfl⟩ (.cons ⟨_, rfl⟩ (.nil))))))))
    (case gtg_FORMS => k_is)
    (case gtl_FORMS => k_is)
    (case gtc_FORMS => first | rfl | k_is)
    (case gtd_FORMS => first | rfl | k_is)
    (case gtv_FORMS => exact .cons ⟨_, rfl⟩ (.cons ⟨_, rfl⟩ (.cons ⟨_, rfl⟩ (.cons ⟨_, rfl⟩ (.nil)))))
    (case gtg_ANSWERS => k_is)
    (case gtl_ANSWERS => k_is)
    (case gtc_ANSWERS => first | rfl | k_is)
    (case gtd_ANSWERS => first | rfl | k_is)
    (case gtv_ANSWERS => exact .cons ⟨_, rfl⟩ (.cons ⟨_, rfl⟩ (.cons ⟨_, rfl⟩ (.nil))))
    (case gtg_NUMBERS => k_is)
    (case gtl_NUMBERS => k_is)
    (case gtc_NUMBERS => first | rfl | k_is)
    (case gtd_NUMBERS => first | rfl | k_is)
    (case gtv_NUMBERS => exact .cons ⟨_, rfl⟩ (.cons ⟨_, rfl⟩ (.cons ⟨_, rfl⟩ (.cons ⟨_, rfl⟩ (.cons ⟨_, rfl⟩ (.cons ⟨_, rfl⟩ (.nil)))))))
    (case nfx_Moments_Loop => k_is)
    (case nfx_Moments_Number => k_is)
    (case nfx_Moments_Answer => k_is)
    (case nfx_Moments_Moments => k_is)
    (case nfx_Answer_Loop => k_is)
    (case nfx_Answer_Number => k_is)
    (case nfx_Answer_Answer => k_is)
    (case nfx_Answer_Moments => k_is)
    (case nfx_Number_Loop => k_is)
    (case nfx_Number_Number => k_is)
    (case nfx_Number_Answer => k_is)
    (case nfx_Number_Moments => k_is)
    (case ne_Moments => k_is)
    (case ne_Answer => k_is)
    (case ne_Number => k_is)
