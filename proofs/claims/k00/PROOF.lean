import PyProof.Rows.All
import Wide.All
import OpenK.AllK
import Wide.FinOn
import PySem.Challenge.RW_spanloops_k00_errors_made
import HandS.ForMost
import HandS.Wide
import HandS.Walk
import HandS.SortRule
import HandS.Defaults
import HandS.IsInst
import HandS.ClsMeth
import HandS.TupLe
import KE.GoesMore
import HandS.MakeKwOnly
import HandS.Property
import KE.KRevSl
import HandS.SortInts
import HandS.More
import HandS.Strs
import HandS.SetFor
import HandS.Rev
import HandS.RevTup
import KE.KDictZip
import KE.KTurns
import HandS.TupAny
import HandS.Text
import HandS.SetBool
import HandS.ForExc
import HandS.TryMany
import HandS.ExcInit
import HandS.ExcField
import HandS.ExcIs
import HandS.CallSlots
import KE.KExcIs
import HandS.Deep
import HandS.Star
import KE.SortKeyHeap
import HandS.GenYield
import KE.KExcInit
import PyProof.ExcBaseAll.OverflowError
import PyProof.ExcBaseAll.LookupError
import PyProof.ExcBaseAll.RuntimeError
import HandS.OwnEq
import KE.KOpsOwn
import HandS.Flow
import HandS.Lambda
import HandS.RaiseMore
import KE.SortData
import HandS.Zip
import PyProof.TupleOfGen
import HandS.Style
import HandS.Small
import KE.KCallOwn
import HandS.FStr
import HandS.SetTxt0
import HandS.GenList
import HandS.EndTab
import KE.KNestM
import HandS.ListItems
import HandS.StrMore
import KE.KxField
import PyProof.LongRange
import KE.GoesEnumKw
import PyProof.Rows.CallKwBuiltin
import KE.OsRunLaw
set_option Elab.async false
set_option linter.all false
set_option maxRecDepth 100000
set_option maxHeartbeats 4000000
section
open PySem PySem.W PyProof.Rows
local macro_rules | `(tactic| k_head) => `(tactic| k_headL)
set_option maxHeartbeats 0 in
open_top Spk.topOf for PySem.Challenge.rw_spanloops_k00_errors_made
end
namespace Spk
open PySem PySem.Spec PyProof.Rows L2
/-! Defs that are run where no repr is under way: the layer's rule of a def, with that known of the place. -/
structure FnG (P : Program) (w : World) (K : PySem.W.Frag) (mg : Str → Option Value) (bh : Heap) (k : Nat) (f : Addr) (fd : FuncData) (ps : List Str) (sp : Sp) : Prop where
  lenG : ∀ ws J R U, sp ws J R U → ws.length = ps.length
  runG : ∀ (B : Around) (ou : List Env) (t : Shared) (J : Hp) (ar : Args) (xs : List Value) (ws : List V) (R : VK) (U : XK), B.guards = some [] → Room k B →
    Env0 P w K mg bh B ou t J → BindsTo t fd ar (ps.zip xs) → Vals ws xs → sp ws J R U →
    codeAny (model P w) B (.call (.ref f) ar) (CR CX0 ou P w J t R U) t
section
variable {P : Program} {w : World} {K : PySem.W.Frag} {mg : Str → Option Value} {bh : Heap}
theorem fnG_of {k : Nat} {f : Addr} {nm qu : Str} {pr : Arguments} {bd : List Stmt} {sc : Scope} {v1 v2 v3 v4 v5 v6 v7 : Value} {o1 o2 : Option Addr}
    {sl : Array (Option Value)} {N ps : List Str} {sp : Sp}
    (lk : K.lookup f = some ⟨v7, o2, .func (PySem.W.fnOf nm qu pr bd sc v1 v2 v3 v4 o1 v5 v6), sl⟩)
    (hcd : PySem.W.codeIn K v5 qu = true) (S : FnScope N ps sc)
    (ln : ∀ ws J R U, sp ws J R U → ws.length = ps.length)
    (hb : ∀ (B : Around) (ou : List Env) (t : Shared) (J : Hp) (ws : List V) (R : VK) (U : XK), B.guards = some [] →
      Room k (B.deeper (envOfC qu sc t.heap.objs.size f v5)) → sp ws J R U →
      ∃ tr, PSs (cxOf CX0 P w K mg bh N qu sc f v5 B ou t J U) bd tr ∧ tr { nx := fun _ J' => R .non J', rt := R } (L2.start N ws) J) :
    FnG P w K mg bh (k + 1) f (PySem.W.fnOf nm qu pr bd sc v1 v2 v3 v4 o1 v5 v6) ps sp := by
  refine ⟨ln, fun B ou t J ar xs ws R U hgd rm e0 bi rl hsp => ?_⟩
  have hlen := ln _ _ _ _ hsp
  have kin : K.In t.heap := e0.mod.kin.keeps fun z y q => (e0.bs z y q).1
  have nol : t.heap.NoLimit := e0.mod.nolimit.keeps fun z y q => (e0.bs z y q).1
  refine codeAny_call_function rm.depth (kin _ _ lk) rfl S.co S.gen rfl (PySem.W.codeRec_of kin hcd) (bi _ _ _ _ ?_)
  refine wpAny_newFunctionEnv_cells S.kind ?_ fun en hen s1 ic => ?_
  · rintro ⟨n, v⟩ hy
    exact (S.par n (List.of_mem_zip hy).1).imp id fun q => ⟨q, PySem.W.cellsFrom_some _ _ _ (.inl q)⟩
  · subst hen
    refine ⟨nol.keeps ic.toInCall.keep, codeAny_func ?_⟩
    obtain ⟨tr, htr, hq⟩ := hb B ou t J ws R U hgd (rm.deeper _) hsp
    have iv : Inv (cxOf CX0 P w K mg bh N qu sc f v5 B ou t J U) [] (L2.start N ws) J s1 := inv_start S rm.hd e0 hlen rl ic
    refine wpAny_mono (htr.run [] s1 (L2.start N ws) J _ iv hq) (fun fl s2 hs => ?_) fun _ _ hs => hs
    cases fl with
    | ret u =>
      obtain ⟨v, _, J', I', rv, q⟩ := hs
      exact ⟨v, J', I'.os, I'.bare, I'.base, I'.hok, rv, q⟩
    | next =>
      obtain ⟨_, J', I', q⟩ := hs
      exact ⟨.non, J', I'.os, I'.bare, I'.base, I'.hok, rfl, q⟩
    | brk => exact hs.elim fun _ h => h.elim fun _ h => h.2.elim
    | cont => exact hs.elim fun _ h => h.elim fun _ h => h.2.elim
theorem Fun.okG {x qu : Str} {st : Stmt} {f : Addr} {fd : FuncData} {N ps : List Str} {k : Nat} {sp : Sp} (F : Fun K x qu st f fd) (S : FnScope N ps (defScope st))
    (ln : ∀ ws J R U, sp ws J R U → ws.length = ps.length)
    (hb : ∀ (cv : Value) (B : Around) (ou : List Env) (t : Shared) (J : Hp) (ws : List V) (R : VK) (U : XK), B.guards = some [] →
      Room k (B.deeper (envOfC qu (defScope st) t.heap.objs.size f cv)) → sp ws J R U →
      ∃ tr, PSs (cxOf CX0 P w K mg bh N qu (defScope st) f cv B ou t J U).nox (defBody st) tr ∧ tr { nx := fun _ J' => R .non J', rt := R } (L2.start N ws) J) :
    FnG P w K mg bh (k + 1) f fd ps sp := by
  obtain ⟨_, _, _, _, _, _, cv, _, _, rfl, lk, hcd⟩ := F.ex
  refine fnG_of lk hcd S ln fun B ou t J ws R U hgd rm hsp => ?_
  obtain ⟨tr, h, q⟩ := hb cv B ou t J ws R U hgd rm hsp
  exact ⟨tr, h.nox, q⟩
end
section
variable {X : Cx} {k : Nat} {f : Addr} {fd : FuncData} {ps : List Str} {sp : Sp} {dvs : List V} {ds : List Value} {x : Str} {p pos : Pos} {e : Expr} {es : List Expr} {t : TA}
/-- repr of data: None, bools, ints, texts, lists and tuples of these, where no repr is under way -/
def rRepr (K : PySem.W.Frag) : List V → Hp → VK → Prop := fun xs J R => ∃ (x : V) (d : PyData), xs = [x] ∧ Dp K J x d ∧ d.showable = true ∧ d.hasDict = false ∧ d.depth ≤ 64 ∧ d.shown.length ≤ sizeLine ∧ R (.str d.shown) J
theorem call_reprD (gd : X.A.guards = some []) (rm : Room k X.A) : CallR X (.builtin "repr") (rRepr X.K) := by
  intro pins s σ J xs us R I r h
  obtain ⟨x, d, rfl, dp, hs, hnd, hdep, hz, q⟩ := h
  have hu : X.A.units + (d.depth + 1) < cLine := by have := rm.un; omega
  obtain ⟨u, rfl, ru⟩ := vals1 r
  obtain ⟨as, rd⟩ := Dp.reads I d x u dp ru
  have fin : ∀ h' tk, (∀ b o, s.heap.get? b = some o → h'.get? b = some o) → ∀ t, EP X pins σ R (.str d.shown t) { s with heap := h', toks := tk } := fun h' tk hk t =>
    ⟨.str d.shown, J, I.kept (t' := tk) hk, ⟨t, rfl⟩, q⟩
  cases dp with
  | non =>
    obtain rfl : u = Value.none := ru
    refine PySem.P.repr_of_none ?_
    have := fin s.heap (s.toks + 1) (fun _ _ z => z) s.toks
    simpa only [PyData.shown_none] using this
  | bl b =>
    obtain rfl : u = Value.bool b := ru
    refine PySem.P.repr_of_bool ?_
    have := fin s.heap (s.toks + 1) (fun _ _ z => z) s.toks
    simp only [PyData.shown_bool] at this
    cases b <;> exact this
  | int i =>
    obtain ⟨t, rfl⟩ := ru
    refine PySem.P.repr_of_int (by simpa [PyData.showable] using hs) ?_
    have := fin s.heap (s.toks + 1) (fun _ _ z => z) s.toks
    simpa only [PyData.shown_int] using this
  | str y =>
    obtain ⟨t, rfl⟩ := ru
    refine PySem.P.repr_of_str ?_ (by simpa only [PyData.shown_str] using hz)
    have := fin s.heap (s.toks + 1) (fun _ _ z => z) s.toks
    simpa only [PyData.shown_str] using this
  | @lst a ys ds sq da =>
    obtain rfl : u = Value.ref a := ru
    exact repr_of_reads' rd hs (fun z => absurd z (by rw [hnd]; decide)) gd hu (fun _ _ z => z) (fun h' t tk hk => fin h' tk hk t) hz
  | @tup a ys ds sq da =>
    obtain rfl : u = Value.ref a := ru
    exact repr_of_reads' rd hs (fun z => absurd z (by rw [hnd]; decide)) gd hu (fun _ _ z => z) (fun h' t tk hk => fin h' tk hk t) hz
end
end Spk
namespace Spk
open PySem PySem.Spec PyProof.Rows L2
section
variable {P : Program} {w : World} {K : PySem.W.Frag} {mg mb : Str → Option Value} {k : Nat} {fa a : Addr} {fd : FuncData} {x : Str} {sp : Sp} {t : Shared} {zs : List Value} {ns : List Int}
def Fin1 (t : Shared) (r : Result) (u : Shared) : Prop := r = .ok (.ret (.bool true)) ∧ OldK t.heap u.heap ∧ u.os = t.os ∧ AllBare u.gens
/-- the law's call, from a heap that tracks nothing but the script (or nothing) -/
theorem coreG {J : Hp} (KX : K.In t.heap) (hns : t.heap.Ns mainGlobals mg) (hb : t.heap.Ns builtinsNs mb) (hbb : ∀ y : Str, y ≠ "__name__" → mb y = bootBuiltins y) (hlim : t.heap.NoLimit) (hg : t.gens = #[])
    (ha : t.heap.get? a = some { cls := .type "list", data := .seq zs.toArray }) (rm : Room k callerA)
    (F : ∀ bh : Heap, K.In bh → bh.Ns mainGlobals mg → FnG P w K mg bh k fa fd [x] sp) (bi : ∀ (s : Shared) (u : Value), BindsTo s fd ⟨[u], []⟩ [(x, u)])
    (hO : Only J) (hok : HOk P w J t.heap) (hA : ∀ b, J b ≠ none → b = a) (hK : J a ≠ none → K.lookup a = none)
    (hsp : sp [.ref a] J (fun v _ => v = .bl true) E0) : codeAny (model P w) callerA (.call (.ref fa) ⟨[.ref a], []⟩) (Fin1 t) t := by
  have gone : ∀ b o es ep, t.heap.get? b = some o → o.data = .dict es ep → J b = none := by
    intro b o es ep e d
    cases q : J b with
    | none => rfl
    | some u =>
      obtain rfl : b = a := hA b (by rw [q]; exact fun z => nomatch z)
      obtain rfl : _ = o := Option.some.inj (ha.symm.trans e)
      exact nomatch (show Data.seq zs.toArray _ = Data.dict es ep from d)
  have ns' : ∀ b m, t.heap.Ns b m → (hidT t.heap J).Ns b m := by
    rintro b m ⟨o, es, ep, e, d, r⟩
    exact ⟨o, es, ep, hidT_get e (gone b o es ep e d), d, r⟩
  have kb : K.In (hidT t.heap J) := by
    intro b o e
    refine hidT_get (KX b o e) ?_
    cases q : J b with
    | none => rfl
    | some u =>
      obtain rfl : b = a := hA b (by rw [q]; exact fun z => nomatch z)
      exact absurd e (by rw [hK (by rw [q]; exact fun z => nomatch z)]; exact fun z => nomatch z)
  have md : Mod K mg (hidT t.heap J) := ⟨kb, ns' _ _ hns, ⟨mb, ns' _ _ hb, hbb⟩, hlim.imp fun mc h => ⟨ns' _ _ h.1, h.2⟩⟩
  have e0 : Env0 P w K mg (hidT t.heap J) callerA [] t J :=
    { frames := rfl, mod := md, bs := fun _ _ e => of_hidT e, bsz := Nat.le_of_eq (hidT_size _ _), funs := trivial, frf := (fun _ h => nomatch h), hok := hok, bare := .of_eq hg }
  refine codeAny_mono ((F _ kb (ns' _ _ hns)).runG callerA [] t J ⟨[.ref a], []⟩ [.ref a] [.ref a] _ E0 rfl rm e0 (bi t (.ref a)) (.cons rfl .nil) hsp) fun r u h => ?_
  match r, h with
  | .ok (.ret y), h =>
    obtain ⟨v, J', os, bare, un, hok', ry, q⟩ := h
    obtain rfl : v = .bl true := q
    obtain rfl : y = Value.bool true := ry
    refine ⟨rfl, OldK.of_keep fun b o e => ?_, os, bare⟩
    rcases hO b with z | ⟨ob, xs, z⟩
    · exact un.keep b o e z (fun h => nomatch h) (fun h => nomatch h)
    · have e1 := (hok b _ z).1
      have e2 := (hok' b _ (un.frzs b ob _ z)).1
      exact e2.trans (e1.symm.trans e)
theorem lawG (KX : K.In t.heap) (hns : t.heap.Ns mainGlobals mg) (hb : t.heap.Ns builtinsNs mb) (hbb : ∀ y : Str, y ≠ "__name__" → mb y = bootBuiltins y) (hlim : t.heap.NoLimit) (hg : t.gens = #[])
    (ha : t.heap.get? a = some { cls := .type "list", data := .seq zs.toArray }) (hi : IntsAre zs ns) (hl : ns.length ≤ sizeLine) (rm : Room k callerA)
    (F : ∀ bh : Heap, K.In bh → bh.Ns mainGlobals mg → FnG P w K mg bh k fa fd [x] sp) (bi : ∀ (s : Shared) (u : Value), BindsTo s fd ⟨[u], []⟩ [(x, u)])
    (hsp : ∀ J : Hp, Only J → SqL K J a (ns.map V.int) → sp [.ref a] J (fun v _ => v = .bl true) E0) :
    codeAny (model P w) callerA (.call (.ref fa) ⟨[.ref a], []⟩) (Fin1 t) t := by
  have rv : Vals (ns.map V.int) zs := vals_ints hi
  have ll : zs.length ≤ sizeLine := by rw [← rv.length, List.length_map]; exact hl
  cases hk : K.lookup a with
  | some o =>
    obtain rfl : _ = o := Option.some.inj (ha.symm.trans (KX a o hk))
    have sq : SqL K (fun _ => none) a (ns.map V.int) := Or.inr ⟨_, zs.toArray, _, hk, rfl, rfl, rfl, by simpa using ll, by simpa using rv⟩
    exact coreG KX hns hb hbb hlim hg ha rm F bi (fun _ => Or.inl rfl) (fun _ _ z => nomatch z) (fun _ z => absurd rfl z) (fun z => absurd rfl z) (hsp _ (fun _ => Or.inl rfl) sq)
  | none =>
    let J : Hp := fun b => if b = a then some (.frz { cls := .type "list", data := .seq zs.toArray } (.lst (ns.map V.int))) else none
    have ja : J a = some (.frz { cls := .type "list", data := .seq zs.toArray } (.lst (ns.map V.int))) := if_pos rfl
    have jn : ∀ b, b ≠ a → J b = none := fun b h => if_neg h
    have ho : Only J := fun b => (Classical.em (b = a)).elim (fun e => Or.inr ⟨_, _, e ▸ ja⟩) fun e => Or.inl (jn b e)
    refine coreG KX hns hb hbb hlim hg ha rm F bi ho (fun b u z => ?_) (fun b z => Classical.byContradiction fun e => z (jn b e)) (fun _ => hk) (hsp J ho (Or.inl (Or.inr ⟨_, ja⟩)))
    by_cases e : b = a
    · subst e
      obtain rfl := Option.some.inj (ja.symm.trans z)
      exact ⟨ha, by rw [List.length_map]; exact hl, zs, _, rv, ha⟩
    · exact absurd ((jn b e).symm.trans z) fun z => nomatch z
end
theorem walkG {l : PySem.W.OpenLaw} {n k : Nat} {q : Program} {lo : List Str} {XP : (Str → Option Value) → Heap → Prop} {YP : World → Heap → Prop} {d : DefRec} {K : Params → PySem.W.Frag} {sp : World → Sp} {x : Str}
    (hn : l.most = some n) (hn2 : n ≤ sizeLine) (hdf : d.params.defaults = []) (rm : Room k callerA) (hY : ∀ (w : World) (h : Heap), YP w h → (K w.params).In h)
    (F : ∀ (w : World) (mg : Str → Option Value) (fa : Addr) (h : Heap), (K w.params).In h → h.Ns mainGlobals mg → mg d.name = some (.ref fa) →
      ∃ fd : FuncData, (∀ (s : Shared) (u : Value), BindsTo s fd ⟨[u], []⟩ [(x, u)]) ∧
        ∀ bh : Heap, (K w.params).In bh → bh.Ns mainGlobals mg → FnG l.prog w (K w.params) mg bh k fa fd [x] (sp w))
    (hsp : ∀ (w : World) (J : Hp) (a : Addr) (ns : List Int), ns.length ≤ n → Only J → SqL (K w.params) J a (ns.map V.int) → sp w [.ref a] J (fun v _ => v = .bl true) E0) :
    PySem.W.WalkO q lo XP YP l.row.toRowW d [] (fun f vs => PySem.call f vs) := by
  refine Att.attach_call hn hdf fun w s₀ t mg mb fa o pm cd doc a zs ns G Y ho hd hcd hmg hobj hints hlen hg => ?_
  obtain ⟨fd, bi, hF⟩ := F w mg fa _ (hY w _ Y) G.T.g hmg
  exact lawG (hY w _ Y) G.T.g G.T.b G.T.builtins G.T.nolimit hg hobj hints (Nat.le_trans hlen hn2) rm hF bi fun J hO hS => hsp w J a ns hlen hO hS
end Spk
namespace Spk
open PySem PySem.Spec PyProof.Rows L2
/-! ### a def that may be called -/
structure Rdy (P : Program) (w : World) (K : PySem.W.Frag) (mg : Str → Option Value) (bh : Heap) (x : Str) (k : Nat) (ps : List Str) (sp : Sp) (f : Addr) (fd : FuncData) : Prop where
  ok : FnOk P w K mg bh CX0 k f fd ps sp
  gl : mg x = some (.ref f)
  kp : PySem.W.keepIn K (.ref f) = true
  bd : Binds K fd ps []
section
variable {X : Cx} {x : Str} {k j : Nat} {ps : List Str} {dvs : List V} {sp : Sp} {f : Addr} {fd : FuncData} {p pos : Pos} {e : Expr} {es : List Expr} {t : TA}
theorem pe_rdy (R : Rdy X.prog X.w X.K X.mg X.base x k ps sp f fd) (rm : Room j X.A) (hj : k ≤ j) (hg : Gl X x) (ha : PA X (e :: es) t) (hdb : (x == ("__debug__" : Str)) = false := by decide)
    (he : starEach (e :: es) X.env = (false, eval e X.env) :: starEach es X.env := by rfl) (hpl : (backTo pos (starEach es X.env)).any (·.1) = false := by rfl) :
    PE X (.Call (.Name x p) (e :: es) [] pos) (tCall sp [] E0 t) := pe_call R.ok (rm.mono hj) hg R.gl R.kp R.bd .nil pass0 ha hdb he hpl
/-! ### a word between a statement and what follows -/
def tMid (t u : TS) : TS := fun D σ H => ∃ M : L2.St → Hp → Prop, t { D with nx := M } σ H ∧ ∀ τ J, M τ J → u D τ J
theorem pss_mid {st : Stmt} {sts : List Stmt} {t u : TS} (a : PS X st t) (b : PSs X sts u) : PSs X (st :: sts) (tMid t u) := by
  refine ⟨fun pins s σ H D I h => h.elim fun M h => ?_⟩
  refine wpAny_execs_cons (thn (a.run pins s σ H { D with nx := M } I h.1) fun fl s1 q => ?_)
  match fl, q with
  | .next, q =>
    obtain ⟨τ, J, I', q⟩ := q
    exact b.run pins s1 τ J D I' (h.2 τ J q)
  | .ret _, q => exact q
  | .brk, q => exact q
  | .cont, q => exact q
/-! ### constants of the module, of a class -/
end
/-! ### defs with defaults, calls by keywords alone -/
/-! ### heaps -/
theorem SqL.hp {K : PySem.W.Frag} {H : Hp} {a : Addr} {xs : List V} (h : H a = some (.lst xs)) : SqL K H a xs := .inl (.inl h)
theorem SqT.hp {K : PySem.W.Frag} {H : Hp} {a : Addr} {xs : List V} (h : H a = some (.tup xs)) : SqT K H a xs := .inl (.inl h)
/-- all that was tracked, but for what stands at p, is as it was -/
def Kp (p : Addr) (H H' : Hp) : Prop := ∀ b o, b ≠ p → H b = some o → H' b = some o
theorem Kp.refl {p : Addr} {H : Hp} : Kp p H H := fun _ _ _ h => h
theorem Kp.trans {p : Addr} {H H1 H2 : Hp} (a : Kp p H H1) (b : Kp p H1 H2) : Kp p H H2 := fun c o n h => b c o n (a c o n h)
theorem Kp.new {p q : Addr} {H : Hp} {o : HO} (h : H q = none) : Kp p H (upd H q o) := fun b u _ e => by rw [upd_ne (ne_of_none e h)]; exact e
theorem Kp.at_ {p : Addr} {H : Hp} {o : HO} : Kp p H (upd H p o) := fun b u n e => by rw [upd_ne n]; exact e
theorem Same.new {q : Addr} {H : Hp} {o : HO} (h : H q = none) : Same H (upd H q o) := fun b u e => by rw [upd_ne (ne_of_none e h)]; exact e
theorem sameT {K : PySem.W.Frag} {H H' : Hp} {a : Addr} {xs : List V} (e : Same H H') (h : SqT K H a xs) : SqT K H' a xs := by
  rcases h with (h | ⟨o, h⟩) | h
  · exact .inl (.inl (e _ _ h))
  · exact .inl (.inr ⟨o, e _ _ h⟩)
  · exact .inr h
end Spk
namespace Spk
open PySem PySem.Spec PyProof.Rows L2
/-! ### try: .. except X as n: .. except Y as m: .. -/
/-- a clause: the class, the slot of its name, the suite's reading -/
structure Cl where
  c : Value
  i : Nat
  ts : Addr → Value → Option Addr → TS
inductive ClOk (X : Cx) : List ExceptHandler → List Cl → Prop
  | nil : ClOk X [] []
  | cons {x n : Str} {k : Cl} {s0 : Stmt} {su : List Stmt} {np hp : Pos} {hds : List ExceptHandler} {l : List Cl} (hi : X.N[k.i]? = some n) (hln : X.env.kindOf n = some .local) (hc : Names X x k.c)
      (hsu : ∀ (a : Addr) (oe : Obj) (cls : Value) (d : Option Addr) (pn : List (Addr × Obj)), Zc cls d oe → (∃ vs, oe.data = .fields vs) → PSs (X.suite a ((a, oe) :: pn)) (s0 :: su) (k.ts a cls d))
      (r : ClOk X hds l) : ClOk X (.ExceptHandler (some (.Name x np)) (some n) (s0 :: su) hp :: hds) (k :: l)
end Spk
namespace Spk
open PySem PySem.Spec PyProof.Rows L2
/-! ### an own error over ValueError whose __init__ stores its one argument under f -/
def sp_init (C : Addr) (f : Str) : Sp := fun vs H Q _ => ∃ (a : Addr) (v : V), vs = [.ref a, v] ∧ H a = some (exo a C none) ∧ ∀ dx, H dx = none → dx ≠ a → Q .non (upd (upd H dx (exd dx [(f, v)])) a (exo a C (some dx)))
end Spk
namespace Spk
/-! ### pairs of edges, the union as a function on lists of pairs -/
abbrev Pr := Int × Int
def ple (p q : Pr) : Prop := p.1 < q.1 ∨ (p.1 = q.1 ∧ p.2 ≤ q.2)
instance (p q : Pr) : Decidable (ple p q) := inferInstanceAs (Decidable (_ ∨ _))
def ins (p : Pr) : List Pr → List Pr
  | [] => [p]
  | q :: r => if ple p q then p :: q :: r else q :: ins p r
def srt : List Pr → List Pr
  | [] => []
  | p :: r => ins p (srt r)
theorem ins_perm (p : Pr) : ∀ l, (ins p l).Perm (p :: l)
  | [] => .refl _
  | q :: r => by
    unfold ins
    split
    · exact .refl _
    · exact ((ins_perm p r).cons q).trans (List.Perm.swap p q r)
theorem srt_perm : ∀ l, (srt l).Perm l
  | [] => .refl _
  | p :: r => (ins_perm p _).trans ((srt_perm r).cons p)
/-- the same by recursion -/
def joinG (c : Pr) : List Pr → List Pr
  | [] => [c]
  | p :: r => if c.2 < p.1 then c :: joinG p r else joinG (c.1, if c.2 < p.2 then p.2 else c.2) r
def joinM : List Pr → List Pr
  | [] => []
  | p :: r => joinG p (p :: r)
/-- z: whether ends are read as shut -/
def emp (z : Bool) (p : Pr) : Bool := if z then decide (p.2 < p.1) else decide (p.2 ≤ p.1)
def unionM (z : Bool) (l : List Pr) : List Pr := joinM (srt (l.filter fun p => !emp z p))
end Spk
namespace Spk
open PySem PySem.Spec PyProof.Rows L2
/-! ### any objects, as data -/
def edgeI (i : Int) : Bool := (decide (-1000000000000000000000000000000 ≤ i) && decide (i ≤ 1000000000000000000000000000000)) || (decide (i = -10000000000000000000000000000000) || decide (i = 10000000000000000000000000000000))
def strP (p : Pr) : Bool := edgeI p.1 && edgeI p.2 && (decide (p.1 ≤ p.2) && (decide (p.1 < 10000000000000000000000000000000) && decide (-10000000000000000000000000000000 < p.2)))
/-- the data of a pair -/
def prD (p : Pr) : PyData := .tuple [.int p.1, .int p.2]
/-- refs to tuples of two ints -/
def Pd (H : Hp) : List Addr → List Pr → Prop
  | [], [] => True
  | t :: ts, p :: ps => H t = some (.tup [.int p.1, .int p.2]) ∧ Pd H ts ps
  | _, _ => False
theorem Pd.len {H : Hp} : ∀ {ts : List Addr} {ps : List Pr}, Pd H ts ps → ts.length = ps.length
  | [], [], _ => rfl
  | t :: ts, p :: ps, h => by simp [Pd.len h.2]
  | [], _ :: _, h => h.elim
  | _ :: _, [], h => h.elim
/-- what changes is no tuple -/
theorem Pd.kp {q : Addr} {H H' : Hp} (e : Kp q H H') (hq : ∀ xs, H q ≠ some (.tup xs)) : ∀ {ts : List Addr} {ps : List Pr}, Pd H ts ps → Pd H' ts ps
  | [], [], _ => trivial
  | t :: ts, p :: ps, h => ⟨e _ _ (fun z => hq _ (z ▸ h.1)) h.1, Pd.kp e hq h.2⟩
  | [], _ :: _, h => h.elim
  | _ :: _, [], h => h.elim
theorem Pd.app {H : Hp} : ∀ {ts : List Addr} {ps : List Pr} {us : List Addr} {qs : List Pr}, Pd H ts ps → Pd H us qs → Pd H (ts ++ us) (ps ++ qs)
  | [], [], _, _, _, h => h
  | t :: ts, p :: ps, _, _, h, k => ⟨h.1, Pd.app h.2 k⟩
  | [], _ :: _, _, _, h, _ => h.elim
  | _ :: _, [], _, _, h, _ => h.elim
theorem Pd.set {H : Hp} : ∀ {ts : List Addr} {ps : List Pr} (i : Nat) {t : Addr} {p : Pr}, Pd H ts ps → H t = some (.tup [.int p.1, .int p.2]) → Pd H (ts.set i t) (ps.set i p)
  | [], [], _, _, _, h, _ => h
  | t :: ts, p :: ps, 0, _, _, h, k => ⟨k, h.2⟩
  | t :: ts, p :: ps, i + 1, _, _, h, k => ⟨h.1, Pd.set i h.2 k⟩
  | [], _ :: _, _, _, _, h, _ => h.elim
  | _ :: _, [], _, _, _, h, _ => h.elim
theorem Pd.dp {K : PySem.W.Frag} {H : Hp} : ∀ {ts : List Addr} {ps : List Pr}, Pd H ts ps → DpAll K H (ts.map V.ref) (ps.map prD)
  | [], [], _ => .nil
  | t :: ts, p :: ps, h => .cons (.tup (SqT.hp h.1) (.cons (.int _) (.cons (.int _) .nil))) (Pd.dp h.2)
  | [], _ :: _, h => h.elim
  | _ :: _, [], h => h.elim
/-- the draws of a law -/
def BagAt (H : Hp) (p : Addr) (c : Int) : Prop := ∃ b0 b1 b2 b3 : Int, H p = some (.lst [.int b0, .int b1, .int b2, .int b3]) ∧ 0 ≤ b0 ∧ 0 ≤ b1 ∧ b1 < 2305843009213693951 ∧ 0 ≤ b2 ∧ b2 ≤ 1073741824 ∧ 0 ≤ b3 ∧ b3 ≤ c
theorem BagAt.mono {H : Hp} {p : Addr} {c d : Int} (h : BagAt H p c) (e : c ≤ d) : BagAt H p d := by
  obtain ⟨b0, b1, b2, b3, h0, h1, h2, h3, h4, h5, h6, h7⟩ := h
  exact ⟨b0, b1, b2, b3, h0, h1, h2, h3, h4, h5, h6, by omega⟩
theorem BagAt.lst {H : Hp} {p : Addr} {c : Int} (h : BagAt H p c) : ∃ xs, H p = some (.lst xs) := by
  obtain ⟨b0, b1, b2, b3, h0, h1⟩ := h
  exact ⟨_, h0⟩
/-- all but the bag at p is as it was, what was free too -/
def But (p : Addr) (H H' : Hp) : Prop := ∀ b, b ≠ p → H' b = H b
theorem But.kp {p : Addr} {H H' : Hp} (h : But p H H') : Kp p H H' := fun b o n e => (h b n).trans e
theorem But.trans {p : Addr} {H H1 H2 : Hp} (a : But p H H1) (b : But p H1 H2) : But p H H2 := fun c n => (b c n).trans (a c n)
theorem But.refl {p : Addr} {H : Hp} : But p H H := fun _ _ => rfl
theorem lgDiv {i m : Int} (h0 : 0 < m) (h : m ≤ 1000000000000000000000000000000000000000000000) : CDivW i m :=
  wide_div (b := 200) h0 (by omega) (by decide) (by decide)
end Spk
namespace Spk
open PySem PySem.Spec PyProof.Rows L2
/-- the pair that a ref's tuple holds -/
def kOf (H : Hp) : V → Int × Int
  | .ref t => match H t with
    | some (.tup [.int a, .int b]) => (a, b)
    | _ => (0, 0)
  | _ => (0, 0)
theorem kOf_at {H : Hp} {t : Addr} {p : Pr} (h : H t = some (.tup [.int p.1, .int p.2])) : kOf H (.ref t) = p := by
  show (match H t with | some (.tup [.int a, .int b]) => (a, b) | _ => (0, 0)) = p
  rw [h]
theorem Pd.map {H : Hp} : ∀ {ts : List Addr} {ps : List Pr}, Pd H ts ps → (ts.map V.ref).map (kOf H) = ps
  | [], [], _ => rfl
  | t :: ts, p :: ps, h => by
    show kOf H (.ref t) :: (ts.map V.ref).map (kOf H) = p :: ps
    rw [kOf_at h.1, Pd.map h.2]
  | [], _ :: _, h => h.elim
  | _ :: _, [], h => h.elim
theorem Pd.all {H : Hp} : ∀ {ts : List Addr} {ps : List Pr}, Pd H ts ps → ∀ x ∈ ts.map V.ref, ∃ t, x = V.ref t ∧ H t = some (.tup [.int (kOf H x).1, .int (kOf H x).2])
  | [], [], _, x, hx => by simp at hx
  | t :: ts, p :: ps, h, x, hx => by
    rcases List.mem_cons.mp (show x ∈ V.ref t :: ts.map V.ref from hx) with e | hx
    · exact ⟨t, e, by rw [e, kOf_at h.1]; exact h.1⟩
    · exact Pd.all h.2 x hx
  | [], _ :: _, h, _, _ => h.elim
  | _ :: _, [], h, _, _ => h.elim
end Spk
namespace Spk
open PySem PySem.Spec PyProof.Rows L2
theorem Pd.take {H : Hp} : ∀ {ts : List Addr} {ps : List Pr} (n : Nat), Pd H ts ps → Pd H (ts.take n) (ps.take n)
  | [], [], _, _ => by simp [Pd]
  | t :: ts, p :: ps, 0, _ => by simp [Pd]
  | t :: ts, p :: ps, n + 1, h => ⟨h.1, Pd.take n h.2⟩
  | [], _ :: _, _, h => h.elim
  | _ :: _, [], _, h => h.elim
theorem Pd.drop {H : Hp} : ∀ {ts : List Addr} {ps : List Pr} (n : Nat), Pd H ts ps → Pd H (ts.drop n) (ps.drop n)
  | [], [], _, _ => by simp [Pd]
  | t :: ts, p :: ps, 0, h => h
  | t :: ts, p :: ps, n + 1, h => Pd.drop n h.2
  | [], _ :: _, _, h => h.elim
  | _ :: _, [], _, h => h.elim
end Spk
namespace Spk
open PySem PySem.Spec PyProof.Rows L2
theorem strP_ext {c p : Pr} (h : strP c = true) (k : strP p = true) (e : c.2 < p.2) : strP (c.1, p.2) = true := by
  unfold strP edgeI at *
  simp only [Bool.and_eq_true, Bool.or_eq_true, decide_eq_true_eq] at *
  omega
end Spk
namespace Spk
open PySem PySem.Spec PyProof.Rows L2
theorem chr_lt (c : Char) : c.toNat < 0x110000 := by
  have h := c.valid
  show c.val.toNat < 0x110000
  rcases h with h | h
  · have : c.val.toNat < 0xd800 := h
    omega
  · exact h.2
theorem ofS_ok (s : String) : PyData.canLay0 (.str (Str.ofString s)) = true := by
  show (Str.ofString s).cps.all (· < 0x110000) = true
  rw [PySem.Str.ofString_eq_toList]
  show (s.toList.map Char.toNat).toArray.all (· < 0x110000) = true
  rw [List.all_toArray, List.all_eq_true]
  intro n hn
  obtain ⟨c, _, rfl⟩ := List.mem_map.mp hn
  exact decide_eq_true (chr_lt c)
/-! ### objects that may be shown and compared -/
structure OkD (d : PyData) : Prop where
  sh : d.showable = true
  nd : d.hasDict = false
  dp : d.depth ≤ 60
  ln : d.shown.length ≤ sizeLine
  ok : PyData.canLay0 d = true
  st : PyData.canLay0 (.str d.shown) = true
theorem OkD.shaped {d : PyData} (h : OkD d) : SeqAt.shaped d = true := by
  unfold SeqAt.shaped
  rw [h.ok, decide_eq_true (Nat.le_trans h.dp (by decide))]; rfl
theorem log_of {i : Int} (h : -1000000000000000000000000000000000000000000000 ≤ i) (h2 : i ≤ 1000000000000000000000000000000000000000000000) : i.natAbs.log2 < 1920 :=
  Nat.lt_of_lt_of_le (PySem.Flt.log2_lt_of (k := 200) (by decide) (by omega)) (by decide)
end Spk
namespace Spk
open PySem PySem.Spec PyProof.Rows L2
/-! ### small objects, lists of them -/
structure Sm (d : PyData) : Prop where
  sh : d.showable = true
  nd : d.hasDict = false
  dp : d.depth ≤ 6
  lf : d.leavesShort 60 = true
  bk : d.bulk ≤ 50
  ok : PyData.canLay0 d = true
theorem Sm.len {d : PyData} (h : Sm d) : d.shown.length ≤ sizeLine := by
  have := PyData.shown_le_bulk 60 (by decide) d h.lf
  have := h.bk
  rw [sizeLine_eq]; omega
theorem int_short {i : Int} (h : i.natAbs < 10 ^ 45) : (PyData.shown (.int i)).length ≤ 60 := by
  rw [PyData.shown_int, PySem.ofString_length]
  have := int_text_length_le10 (k := 45) (by decide) h
  omega
theorem sm_int {i : Int} (h1 : -1000000000000000000000000000000000000000000000 < i) (h2 : i < 1000000000000000000000000000000000000000000000) : Sm (.int i) where
  sh := by
    have : i.natAbs.log2 < 1920 := log_of (by omega) (by omega)
    simpa [PyData.showable] using this
  nd := rfl
  dp := Nat.zero_le _
  lf := by
    have := int_short (i := i) (by omega)
    simpa [PyData.leavesShort] using this
  bk := Nat.zero_le _
  ok := rfl
theorem Sm.shaped {d : PyData} (h : Sm d) : SeqAt.shaped d = true := by
  unfold SeqAt.shaped
  rw [h.ok, decide_eq_true (Nat.le_trans h.dp (by decide))]; rfl
end Spk
namespace Spk
theorem joinG_len : ∀ (l : List Pr) (c : Pr), (joinG c l).length ≤ l.length + 1
  | [], c => Nat.le_refl _
  | p :: r, c => by
    unfold joinG
    split
    · have := joinG_len r p; simp; omega
    · have := joinG_len r (c.1, if c.2 < p.2 then p.2 else c.2); simp; omega
theorem joinM_len (l : List Pr) : (joinM l).length ≤ l.length + 1 := by
  cases l with
  | nil => exact Nat.zero_le _
  | cons p r => exact joinG_len (p :: r) p
theorem union_len (z : Bool) (l : List Pr) : (unionM z l).length ≤ l.length + 1 := by
  unfold unionM
  refine Nat.le_trans (joinM_len _) (Nat.succ_le_succ ?_)
  rw [(srt_perm _).length_eq]
  exact List.length_filter_le ..
/-- a property of the pairs that joining keeps -/
theorem union_keeps {z : Bool} {G : Pr → Prop} (ext : ∀ c p : Pr, G c → G p → c.2 < p.2 → G (c.1, p.2)) {l : List Pr} (h : ∀ p ∈ l, G p) : ∀ p ∈ unionM z l, G p := by
  have jg : ∀ (l : List Pr) (c : Pr), G c → (∀ p ∈ l, G p) → ∀ p ∈ joinG c l, G p := by
    intro l
    induction l with
    | nil => intro c hc _ p hp; rw [joinG] at hp; exact (List.mem_singleton.mp hp) ▸ hc
    | cons q r ih =>
      intro c hc hl p hp
      unfold joinG at hp
      split at hp
      · rcases List.mem_cons.mp hp with e | hp
        · exact e ▸ hc
        · exact ih q (hl q (by simp)) (fun x hx => hl x (by simp [hx])) p hp
      · refine ih _ ?_ (fun x hx => hl x (by simp [hx])) p hp
        split
        · exact ext c q hc (hl q (by simp)) (by assumption)
        · exact hc
  have hl : ∀ p ∈ srt (l.filter fun p => !emp z p), G p := fun p hp => h p (List.mem_filter.mp ((srt_perm _).mem_iff.mp hp)).1
  unfold unionM
  generalize srt (l.filter fun p => !emp z p) = k at hl
  cases k with
  | nil => intro p hp; simp [joinM] at hp
  | cons q r => exact jg (q :: r) q (hl q (by simp)) hl
end Spk
namespace Spk
/-! ### what the wishes for answers count -/
def mx (m n : Int) : Int := if n > m then n else m
def mn (m n : Int) : Int := if n < m then n else m
/-- have two stretches a moment in common -/
def meetB (z : Bool) (p q : Pr) : Bool := decide (mx p.1 q.1 < mn p.2 q.2) || (z && decide (mx p.1 q.1 = mn p.2 q.2))
/-- no two of them meet -/
def Apart (z : Bool) (ps : List Pr) : Prop := ps.Pairwise fun q p => meetB z p q = false
instance {z : Bool} {ps : List Pr} : Decidable (Apart z ps) := inferInstanceAs (Decidable (List.Pairwise _ _))
/-! ### the law's own pieces -/
def sep (a b : Pr) : Prop := a.2 < b.1 ∨ b.2 < a.1
/-! ### the answers -/
end Spk
namespace Spk
open PySem PySem.Spec PyProof.Rows L2
/-! ### the draws of the later laws -/
def BagN (H : Hp) (p : Addr) : Prop := ∃ b0 b1 : Int, H p = some (.lst [.int b0, .int b1]) ∧ 0 ≤ b0 ∧ 0 ≤ b1 ∧ b1 < 2147483629
theorem BagN.kp {H H' : Hp} {p q : Addr} (h : BagN H p) (k : Kp q H H') (n : p ≠ q) : BagN H' p := by
  obtain ⟨b0, b1, h0, h1⟩ := h
  exact ⟨b0, b1, k _ _ n h0, h1⟩
/-! ### windows, terms -/
/-! ### an Answer -/
end Spk
namespace Spk
open PySem PySem.Spec PyProof.Rows L2
/-- but for what stands at p and q all that was tracked is as it was -/
def Ks (p q : Addr) (H H' : Hp) : Prop := ∀ b o, b ≠ p → b ≠ q → H b = some o → H' b = some o
theorem Ks.refl {p q : Addr} {H : Hp} : Ks p q H H := fun _ _ _ _ h => h
theorem Ks.trans {p q : Addr} {H H1 H2 : Hp} (a : Ks p q H H1) (b : Ks p q H1 H2) : Ks p q H H2 := fun c o n m h => b c o n m (a c o n m h)
theorem Ks.kp {p q : Addr} {H H' : Hp} (s : Kp p H H') : Ks p q H H' := fun c o n _ h => s c o n h
end Spk
namespace Spk
open PySem PySem.Spec PyProof.Rows L2
/-! ### how often a moment is held, by the sorted changes -/
/-! ### which times are wished -/
/-! ### a walk over what stays, beside a list that grows -/
theorem Pd.nil {H : Hp} {us : List Addr} (h : Pd H us []) : us = [] := by
  cases us with
  | nil => rfl
  | cons _ _ => exact h.elim
/-! ### events -/
abbrev Evt := Bool × Int
def evW (b : Bool) : V := .str (if b then "in" else "out")
def Ev (H : Hp) : List Addr → List Evt → Prop
  | [], [] => True
  | t :: ts, e :: es => H t = some (.tup [evW e.1, .int e.2]) ∧ Ev H ts es
  | _, _ => False
theorem Ev.len {H : Hp} : ∀ {ts : List Addr} {ps : List Evt}, Ev H ts ps → ts.length = ps.length
  | [], [], _ => rfl
  | t :: ts, p :: ps, h => by simp [Ev.len h.2]
  | [], _ :: _, h => h.elim
  | _ :: _, [], h => h.elim
theorem Ev.kp {q : Addr} {H H' : Hp} (e : Kp q H H') (hq : ∀ xs, H q ≠ some (.tup xs)) : ∀ {ts : List Addr} {ps : List Evt}, Ev H ts ps → Ev H' ts ps
  | [], [], _ => trivial
  | t :: ts, p :: ps, h => ⟨e _ _ (fun z => hq _ (z ▸ h.1)) h.1, Ev.kp e hq h.2⟩
  | [], _ :: _, h => h.elim
  | _ :: _, [], h => h.elim
theorem Ev.app {H : Hp} : ∀ {ts : List Addr} {ps : List Evt} {us : List Addr} {qs : List Evt}, Ev H ts ps → Ev H us qs → Ev H (ts ++ us) (ps ++ qs)
  | [], [], _, _, _, h => h
  | t :: ts, p :: ps, _, _, h, k => ⟨h.1, Ev.app h.2 k⟩
  | [], _ :: _, _, _, h, _ => h.elim
  | _ :: _, [], _, _, h, _ => h.elim
theorem Ev.take {H : Hp} : ∀ {ts : List Addr} {ps : List Evt} (n : Nat), Ev H ts ps → Ev H (ts.take n) (ps.take n)
  | [], [], n, _ => by simp [Ev]
  | t :: ts, p :: ps, 0, _ => trivial
  | t :: ts, p :: ps, n + 1, h => ⟨h.1, Ev.take n h.2⟩
  | [], _ :: _, _, h => h.elim
  | _ :: _, [], _, h => h.elim
theorem Ev.drop {H : Hp} : ∀ {ts : List Addr} {ps : List Evt} (n : Nat), Ev H ts ps → Ev H (ts.drop n) (ps.drop n)
  | [], [], n, _ => by simp [Ev]
  | t :: ts, p :: ps, 0, h => h
  | t :: ts, p :: ps, n + 1, h => Ev.drop n h.2
  | [], _ :: _, _, h => h.elim
  | _ :: _, [], _, h => h.elim
def evD (e : Evt) : PyData := .tuple [.str (if e.1 then "in" else "out"), .int e.2]
theorem Ev.dp {K : PySem.W.Frag} {H : Hp} : ∀ {ts : List Addr} {ps : List Evt}, Ev H ts ps → DpAll K H (ts.map V.ref) (ps.map evD)
  | [], [], _ => .nil
  | t :: ts, p :: ps, h => .cons (.tup (SqT.hp h.1) (.cons (.str _) (.cons (.int _) .nil))) (Ev.dp h.2)
  | [], _ :: _, h => h.elim
  | _ :: _, [], h => h.elim
/-! ### a Moments -/
/-! ### a list that is kept sorted by insertion -/
end Spk
/-! the begins that no other stretch reaches, the ends beyond which none goes: those of the union -/
namespace Spk
open PySem PySem.Spec PyProof.Rows L2
section
variable {K : PySem.W.Frag}
theorem kit_mk {t : Value} {C : Addr} {b : Bool} (h2 : PySem.W.isClsIn K C = true) (h3 : PySem.W.typeIn K (.ref C) = some (.type "type")) (h4 : PySem.W.subIn K t (.ref C) = some b) : PySem.W.kitCls K t (.ref C) = some b := by
  have e2 : ((PySem.W.clsIn K C).isSome && PySem.W.typeIn K (.ref C) == some (.type "type")) = true := by
    have h2' : (PySem.W.clsIn K C).isSome = true := h2
    rw [h2', h3] <;> rfl
  show (if ((PySem.W.clsIn K C).isSome && PySem.W.typeIn K (.ref C) == some (.type "type")) = true then PySem.W.subIn K t (.ref C) else none) = some b
  rw [if_pos e2]
  exact h4
/-- isinstance by a built-in class -/
theorem kit_bin {C : Addr} {T : String} {b : Bool} (hm : PySem.W.kitMeta T = true) (h : PySem.W.subIn K (.ref C) (.type T) = some b) : PySem.W.kitOne K (.ref C) (.type T) = some b := by
  have e : (Value.ref C == Value.type T) = false := rfl
  show (if (Value.ref C == Value.type T) = true then some true else (if PySem.W.kitMeta T = true then PySem.W.subIn K (.ref C) (.type T) else none)) = some b
  rw [e, if_neg Bool.false_ne_true, if_pos hm]
  exact h
/-- isinstance by another own class: no -/
theorem kit_not {C D : Addr} (h2 : PySem.W.isClsIn K D = true) (h3 : PySem.W.typeIn K (.ref D) = some (.type "type")) (hs : PySem.W.subIn K (.ref D) (.ref D) = some true) (h4 : PySem.W.subIn K (.ref C) (.ref D) = some false) : PySem.W.kitOne K (.ref C) (.ref D) = some false := by
  have ne : C ≠ D := fun z => by rw [z, hs] at h4; cases h4
  have e : (Value.ref C == Value.ref D) = false := by
    cases q : (Value.ref C == Value.ref D) with
    | false => rfl
    | true => exact absurd (by have := beq_iff_eq.mp q; injection this) ne
  show (if (Value.ref C == Value.ref D) = true then some true else PySem.W.kitCls K (.ref C) (.ref D)) = some false
  rw [e, if_neg Bool.false_ne_true]
  exact kit_mk h2 h3 h4
/-- what the top must have left of an own error class over ValueError -/
structure ErrF (K : PySem.W.Frag) (C : Addr) (f : Str) : Prop where
  cls : ∃ nm q N bs bm sn sub ab col dd k0 k1 k2 k3 k5, K.lookup C = some (excClassObj nm q C N bs bm true sn sub ab col dd k0 k1 k2 k3 k5 "ValueError.__new__") ∧ PySem.HandSPX.refsVE bm = true
  sa : PySem.W.findIn K (.ref C) "__setattr__" = some (some (.builtin "object.__setattr__"))
  ga : PySem.W.findIn K (.ref C) "__getattribute__" = some (some (.builtin "BaseException.__getattribute__"))
  gg : PySem.W.findIn K (.ref C) "__getattr__" = some none
  nf : PySem.W.findIn K (.ref C) f = some none
  kC : PySem.W.keepIn K (.ref C) = true
  eC : PySem.W.subIn K (.ref C) (.type "BaseException") = some true
  tC : PySem.W.typeIn K (.ref C) = some (.type "type")
  hC : PySem.W.hasDictIn K C = true
  iC : PySem.W.isClsIn K C = true
  sC : PySem.W.subIn K (.ref C) (.ref C) = some true
theorem ErrF.xf {C : Addr} {f : Str} (h : ErrF K C f) : XfC K C := ⟨h.ga, h.gg, h.eC, h.hC⟩
theorem ErrF.oex {C : Addr} {f : Str} (h : ErrF K C f) : OexC K C := ⟨h.cls, h.sa, h.eC, h.tC, h.kC⟩
theorem ErrF.excC {C : Addr} {f : Str} (h : ErrF K C f) (ha : PySem.W.findIn K (.ref C) "__class__" = some (some (.builtin "object.__class__"))) (hn : PySem.W.specialIn K (.builtin "object.__class__") "__get__" = some (some (.builtin "getset_descriptor.__get__")))
    (ht : PySem.W.takesIn K (.builtin "object.__class__") = some true) (hm : PySem.W.mroIn K C (.type "object") = some true) : ExcC K C := ⟨h.ga, h.gg, h.eC, h.hC, ha, hn, ht, hm⟩
end
end Spk
namespace Spk
open PySem PySem.Spec PyProof.Rows L2
/-! ### the least moments of a spread -/
theorem union_edges {ps : List Pr} (h : ∀ p ∈ ps, strP p = true) : ∀ u ∈ unionM false ps, strP u = true ∧ (∃ p ∈ ps, p.1 = u.1) ∧ ∃ p ∈ ps, p.2 = u.2 :=
  union_keeps (G := fun u => strP u = true ∧ (∃ p ∈ ps, p.1 = u.1) ∧ ∃ p ∈ ps, p.2 = u.2) (fun c p hc hp hl => ⟨strP_ext hc.1 hp.1 hl, hc.2.1, hp.2.2⟩) fun p hp => ⟨h p hp, ⟨p, hp, rfl⟩, ⟨p, hp, rfl⟩⟩
end Spk
namespace Spk
open PySem PySem.Spec PyProof.Rows L2
/-! ### spans and spreads as objects -/
def spnFs (p : Pr) : List (Str × V) := [(("begin" : Str), .int p.1), (("end" : Str), .int p.2)]
structure SpnC (K : PySem.W.Frag) (C : Addr) : Prop where
  cl : Cls K C
  nB : NoAttr K C "begin"
  nE : NoAttr K C "end"
  self : PySem.W.kitOne K (.ref C) (.ref C) = some true
  ha : PySem.W.findIn K (.ref C) "__class__" = some (some (.builtin "object.__class__"))
  hn : PySem.W.specialIn K (.builtin "object.__class__") "__get__" = some (some (.builtin "getset_descriptor.__get__"))
  ht : PySem.W.takesIn K (.builtin "object.__class__") = some true
  hm : PySem.W.mroIn K C (.type "object") = some true
theorem SpnC.ty {K : PySem.W.Frag} {C a dx : Addr} {fs : List (Str × V)} {H : Hp} (c : SpnC K C) (e : H a = some (.ins C dx fs)) : TyX K H (.ref a) (.ref C) := .base (.ins e c.cl c.ha c.hn c.ht c.hm)
structure SprC (K : PySem.W.Frag) (C : Addr) : Prop where
  cl : Cls K C
  nP : NoAttr K C "pairs"
def IsSpn (H : Hp) (C a : Addr) (p : Pr) : Prop := ∃ dx : Addr, H a = some (.ins C dx (spnFs p))
def Spn (H : Hp) (C : Addr) : List Addr → List Pr → Prop
  | [], [] => True
  | a :: as, p :: ps => IsSpn H C a p ∧ Spn H C as ps
  | _, _ => False
theorem Spn.len {H : Hp} {C : Addr} : ∀ {as : List Addr} {ps : List Pr}, Spn H C as ps → as.length = ps.length
  | [], [], _ => rfl
  | _ :: _, _ :: _, h => congrArg (· + 1) (Spn.len h.2)
  | [], _ :: _, h => h.elim
  | _ :: _, [], h => h.elim
theorem Spn.app {H : Hp} {C : Addr} : ∀ {as : List Addr} {ps : List Pr} {bs : List Addr} {qs : List Pr}, Spn H C as ps → Spn H C bs qs → Spn H C (as ++ bs) (ps ++ qs)
  | [], [], _, _, _, h => h
  | _ :: _, _ :: _, _, _, h, k => ⟨h.1, Spn.app h.2 k⟩
  | [], _ :: _, _, _, h, _ => h.elim
  | _ :: _, [], _, _, h, _ => h.elim
theorem Spn.kp {q : Addr} {H H' : Hp} {C : Addr} (e : Kp q H H') (hq : ∀ D dx fs, H q ≠ some (.ins D dx fs)) : ∀ {as : List Addr} {ps : List Pr}, Spn H C as ps → Spn H' C as ps
  | [], [], _ => trivial
  | a :: _, _ :: _, h => by
    obtain ⟨⟨dx, h1⟩, h2⟩ := h
    exact ⟨⟨dx, e _ _ (fun z => hq _ _ _ (z ▸ h1)) h1⟩, Spn.kp e hq h2⟩
  | [], _ :: _, h => h.elim
  | _ :: _, [], h => h.elim
def sprFs (t : Addr) : List (Str × V) := [(("pairs" : Str), .ref t)]
def IsSpr (H : Hp) (C o : Addr) (us : List Pr) : Prop := ∃ (dx t : Addr) (ts : List Addr), H o = some (.ins C dx (sprFs t)) ∧ H t = some (.tup (ts.map V.ref)) ∧ Pd H ts us
/-! ### a def with a star parameter -/
/-! ### o.m(e, ..) where what is raised is wished for at the caller's slots -/
end Spk
namespace Spk
open PySem PySem.Spec PyProof.Rows L2
theorem kit_self {K : PySem.W.Frag} (C : Addr) : PySem.W.kitOne K (.ref C) (.ref C) = some true := by
  have e : (Value.ref C == Value.ref C) = true := beq_iff_eq.mpr rfl
  show (if (Value.ref C == Value.ref C) = true then some true else PySem.W.kitCls K (.ref C) (.ref C)) = some true
  rw [e] <;> rfl
theorem IsSpr.kp {H H' : Hp} {C o q : Addr} {us : List Pr} (h : IsSpr H C o us) (k : Kp q H H') (hq : ∃ xs, H q = some (.lst xs)) : IsSpr H' C o us := by
  obtain ⟨dx, t, ts, h1, h2, h3⟩ := h
  obtain ⟨xs, hq⟩ := hq
  refine ⟨dx, t, ts, k _ _ (fun z => ?_) h1, k _ _ (fun z => ?_) h2, h3.kp k fun ys z => by rw [hq] at z; cases z⟩
  · rw [z, hq] at h1; cases h1
  · rw [z, hq] at h2; cases h2
theorem st_app {a b : Str} (ha : PyData.canLay0 (.str a) = true) (hb : PyData.canLay0 (.str b) = true) : PyData.canLay0 (.str (a ++ b)) = true := by
  have ha : a.cps.all (· < 0x110000) = true := ha
  have hb : b.cps.all (· < 0x110000) = true := hb
  show (a ++ b).cps.all (· < 0x110000) = true
  rw [Str.cps_append, Array.all_append, ha, hb]; rfl
end Spk
namespace L2
open PySem PySem.Spec PyProof.Rows GenW
/-! ### for in a generator's body -/
end L2
namespace SpkX
open PySem PySem.W PySem.Calls PyProof.Rows PySem.HandSPX
open Builtin Builtin.ObjectAttr
/-! ### own errors over any of the built-in ones -/
/-- the first field of an error that is being made -/
theorem put_first {prog : Program} {w : World} {A : Around} {R : Result → Shared → Prop} {H0 : Heap} {ge : Array GenState} {dr : Drawn} {t0 : Nat} {os : OsState} {K : W.Frag} {fn : Str} {tk : Tok} {u : Value} {ea Ca : Addr} {fv : Array Value} {cd : ClassData}
    (KI : K.In H0) (hE : H0.get? ea = some { cls := .ref Ca, data := .fields fv }) (hC : W.clsIn K Ca = some cd) (ne : cd.mro.isEmpty = false) (ob : cd.mro.contains (.type "object") = true) (ps : ∀ z, refuseLoop z "__setattr__" cd.mro = pure ()) (hh : cd.hasDict = true) (hno : W.findIn K (.ref Ca) fn = some none)
    (go : ∀ H1 tk1 dx, (∀ b o, b ≠ ea → H0.get? b = some o → H1.get? b = some o) → H0.objs.size ≤ dx → dx ≠ ea → H1.get? ea = some { cls := .ref Ca, dict := some dx, data := .fields fv } →
      H1.Ns1 dx (fun y => if y = fn then some u else none) → R (.ok (.ret .none)) ⟨H1, ge, dr, tk1, os⟩) :
    codeAny (model prog w) A (.call (.builtin "object.__setattr__") ⟨[.ref ea, .str fn tk, u], []⟩) R ⟨H0, ge, dr, t0, os⟩ := by
  have IN : W.InstAt H0 ea { cls := .ref Ca, data := .fields fv } Ca none := ⟨hE, rfl, rfl, trivial⟩
  have lt : ea ≠ H0.objs.size := Nat.ne_of_lt (Heap.lt_size hE)
  have sb : W.Looks (model prog w) H0 (isInstance (.ref ea) (.type "object")) true := by
    refine IN.type.andThen (W.looks_mroIn KI ?_)
    unfold W.mroIn
    rw [hC, Option.bind_some, if_neg (by rw [ne]; decide), ob]
  refine codeAny_call_builtin F.store_object.slot.plain F.store_object.entry ?_
  refine @W.check_slot (model prog w) _ _ ⟨H0, ge, dr, t0, os⟩ "object.__setattr__" "object" "__setattr__" (.ref ea) [.str fn tk, u] [] _ F.store_object.kind F.store_object.split sb (F.store_object.args (.ref ea) (.str fn tk) u) ?_
  have l1 : W.Looks (model prog w) H0 (mroOf (.ref Ca)) cd.mro := (W.looks_clsIn KI hC).andThen .now
  have l2 : W.Looks (model prog w) H0 (storeTaker? none) none := .now
  have l3 : W.Looks (model prog w) H0 (classData Ca) cd := W.looks_clsIn KI hC
  rw [W.osa_eq, refuse_eq]
  refine wpAny_bind (wpAny_bind (IN.type.at (wpAny_bind (l1.at ?_))))
  rw [ps]
  refine wpAny_pure (wpAny_bind (IN.type.at (wpAny_bind ((W.looks_findIn KI hno).at (wpAny_bind (l2.at ?_))))))
  show wpAny _ _ (storeInOwnDict (.ref ea) (.ref Ca) (.str fn tk) fn u false) _ _ _
  obtain ⟨f1, f2, f3, f4, f5, hd, f6, f7, f8, f9, f10⟩ := cd
  dsimp only at hh
  subst hh
  unfold storeInOwnDict ownDictForStores
  repeat (first | with_reducible refine store_in_new ?_ ?_ | with_reducible refine l3.at ?_ | with_reducible refine wpAny_loadPart_at hE ?_ | wp_step)
  · refine ⟨_, #[], _, (Heap.get?_update_ne _ _ _ _ lt.symm).trans (Heap.get?_push_at rfl rfl), rfl, fun e he => ?_, fun _ => rfl⟩
    exact absurd he (by simp)
  · intro H1 tk1 hn hs
    have h1 : (H0.push { cls := .type "dict", data := .dict #[] }).get? ea = some { cls := .ref Ca, data := .fields fv } := Heap.get?_push_of_some _ hE
    refine go H1 tk1 H0.objs.size (fun b o hb ho => ?_) (Nat.le_refl _) lt.symm ((hs.2 ea lt).trans (Heap.get?_update_self _ h1 rfl)) hn
    exact (hs.2 b (Nat.ne_of_lt (Heap.lt_size ho))).trans ((Heap.get?_update_ne _ _ _ _ hb).trans (Heap.get?_push_of_some _ ho))
end SpkX
namespace Spk
open PySem PySem.Spec PyProof.Rows L2
/-- what the written part says of an own error class -/
structure OexB (K : PySem.W.Frag) (C : Addr) : Prop where
  cls : ∃ B ni ii bm, ExcBaseFacts B ni ii bm ∧ (∀ z, refuseLoop z "__setattr__" bm = pure ()) ∧ bm.contains (.type "object") = true ∧
    ∃ nm q N bs sn sub ab col dd k0 k1 k2 k3 k5, K.lookup C = some (excClassObj nm q C N bs bm true sn sub ab col dd k0 k1 k2 k3 k5 ni)
  sa : PySem.W.findIn K (.ref C) "__setattr__" = some (some (.builtin "object.__setattr__"))
  exC : PySem.W.subIn K (.ref C) (.type "BaseException") = some true
  tyC : PySem.W.typeIn K (.ref C) = some (.type "type")
  kC : PySem.W.keepIn K (.ref C) = true
section
variable {X : Cx} {pins : List (Addr × Obj)} {σ : L2.St} {H : Hp} {s : Shared} {a C : Addr} {f : Str} {y : V} {u : Value} {Q : Unit → Shared → Prop} {E : Value → Shared → Prop} {A : Around}
theorem first_fld (T : OexB X.K C) (I : Inv X pins σ H s) (ea : H a = some (exo a C none)) (nf : PySem.W.findIn X.K (.ref C) f = some none) (ry : RelV y u)
    (go : ∀ dx s', H dx = none → dx ≠ a → Inv X pins σ (upd (upd H dx (exd dx [(f, y)])) a (exo a C (some dx))) s' → Q () s') : wpAny (model X.prog X.w) A (setAttr (.ref a) f u) Q E s := by
  obtain ⟨B, ni, ii, bm, FB, ps, ob, nm, q, N, bs, sn, sub, ab, col, dd, k0, k1, k2, k3, k5, hC⟩ := T.cls
  have cI : PySem.W.clsIn X.K C = some ⟨nm, bs, .ref C :: bm, N, q, true, sn, sub, ab, col, false⟩ := by unfold PySem.W.clsIn; rw [hC] <;> rfl
  obtain ⟨t1, oa⟩ := exo_at I.hok ea
  obtain ⟨H0, ge, dr, tk, os⟩ := s
  refine PySem.W.set_plain I.kIn (ox := { cls := .ref C, dict := none, data := .fields #[.ref t1, .none, .none, .none, .bool false, .none] }) (od := none) ⟨oa, rfl, rfl, trivial⟩ T.sa ?_
  refine SpkX.put_first I.kIn oa cI rfl (by rw [List.contains_cons, ob, Bool.or_true]) (fun z => by rw [refuseLoop_ref]; exact ps z) rfl nf (fun H1 tk1 dx kp dn dne hx hn => ?_)
  have nD : H dx = none := I.hok.fresh dn
  have oth : ∀ {b : Addr}, H b = none → b ≠ a := fun {b} n z => by rw [z, ea] at n; cases n
  have fre : ∀ {b : Addr} {o : Obj}, H0.get? b = some o → b ≠ dx := fun {b o} q => Nat.ne_of_lt (Nat.lt_of_lt_of_le (Heap.lt_size q) dn)
  let HN : Hp := upd (upd H dx (exd dx [(f, y)])) a (exo a C (some dx))
  have at_ : ∀ {b : Addr}, b ≠ a → b ≠ dx → HN b = H b := fun {b} h1 h2 => by show upd (upd H dx _) a _ b = _; rw [upd_ne h1, upd_ne h2]
  have HNo : ∀ {b : Addr} {o : HO}, H b = some o → b ≠ a → HN b = some o := fun {b o} h1 h2 => (at_ h2 (ne_of_none h1 nD)).trans h1
  have un : Un X.fs [] H HN H0 H1 :=
    { keep := fun b o q n _ _ => kp b o (oth n) q
      slot := fun b o q n _ _ => ⟨o.slots, kp b o (oth n) q⟩
      free := fun b o q n _ => (at_ (oth n) (fre q)).trans n
      there := fun b o q _ => (Decidable.em (b = a)).elim (fun hb => ⟨_, hb ▸ hx⟩) fun hb => ⟨o, kp b o hb q⟩
      tups := fun b xs q => HNo q (at_ne ea q exo_tup)
      frzs := fun b o v q => HNo q (at_ne ea q exo_frz)
      tbls := fun b ps q => ⟨#[], by rw [HNo q (at_ne ea q exo_tbl)]; simp⟩ }
  refine go dx _ nD dne (I.un (t' := tk1) un fun b o q => ?_)
  by_cases hb : b = a
  · subst hb
    change upd (upd H dx _) b _ b = some o at q
    rw [upd_same] at q
    cases q; exact exo_ok hx
  · by_cases hd : b = dx
    · subst hd
      change upd (upd H b _) a _ b = some o at q
      rw [upd_ne hb, upd_same] at q
      cases q; exact exd_ok hn (relO_put (fs := []) ry fun g => True.intro)
    · have q0 : H b = some o := (at_ hb hd).symm.trans q
      refine (I.hok b o q0).stay (fun c v hc z => kp c v ?_ z) (fun c hc => HNo hc (at_ne ea hc exo_own)) (fun c xs hc => HNo hc (at_ne ea hc exo_tup))
      rcases hc with rfl | hc
      · exact hb
      · exact at_ne ea hc exo_own
end
/-- self.f = e, in an error's own __init__ -/
def tOstB (K : PySem.W.Frag) (f : Str) (to te : TE) : TS := fun D σ H => te σ H fun y H1 => to σ H1 fun x H2 => ∃ a C : Addr, x = .ref a ∧ OexB K C ∧ PySem.W.findIn K (.ref C) f = some none ∧
  H2 a = some (exo a C none) ∧ ∀ dx, H2 dx = none → dx ≠ a → D.nx σ (upd (upd H2 dx (exd dx [(f, y)])) a (exo a C (some dx)))
theorem ps_ostB {X : Cx} {o e : Expr} {to te : TE} {f : Str} {p' pos : Pos} (ho : PE X o to) (he : PE X e te) (hs : swapsWith e (some (.Attribute o f p')) pos.line X.env = pure false := by rfl) : PS X (.Assign [.Attribute o f p'] e pos) (tOstB X.K f to te) := by
  refine ⟨fun pins s σ H D I h => ?_⟩
  refine plainObj_wpAny_Assign_Attribute (thn (he.run pins s σ H _ I h) fun v s1 z => ?_) hs
  obtain ⟨y, H1, I1, r1, q1⟩ := z
  refine thn (ho.run pins s1 σ H1 _ I1 q1) fun w s2 z => ?_
  obtain ⟨x, H2, I2, r2, a, C, ex, T, nf, ea, q⟩ := z
  subst ex
  obtain rfl : w = Value.ref a := r2
  exact first_fld T I2 ea nf r1 fun dx s' n ne J => ⟨σ, _, J, q dx n ne⟩
/-- what the top has left of such a class -/
structure ErrB (P : Program) (w : World) (K : PySem.W.Frag) (mg : Str → Option Value) (bh : Heap) (x f : Str) (C fI : Addr) (fd : FuncData) : Prop where
  oex : OexB K C
  xf : XfC K C
  noF : PySem.W.findIn K (.ref C) f = some none
  iC : PySem.W.findIn K (.ref C) "__init__" = some (some (.ref fI))
  tI : PySem.W.typeIn K (.ref fI) = some (.type "function")
  gC : mg x = some (.ref C)
  ini : FnOk P w K mg bh CX0 1 fI fd ["self", f] (sp_init C f)
  bd : Binds K fd ["self", f] []
section
variable {P : Program} {w : World} {K : PySem.W.Frag} {mg : Str → Option Value} {bh : Heap} {C : Addr} {f qu : Str} {st : Stmt} {fI : Addr} {fd : FuncData} {q1 q2 q3 q4 : Pos}
theorem ok_initB (F : Fun K "__init__" qu st fI fd) (S : FnScope ["self", f] ["self", f] (defScope st)) (O : OexB K C) (noF : PySem.W.findIn K (.ref C) f = some none)
    (hb : defBody st = [.Assign [.Attribute (.Name "self" q1) f q2] (.Name f q3) q4]) (hf1 : (f == ("__debug__" : Str)) = false) (hf2 : (f == ("__classdict__" : Str)) = false)
    (v0 : (defScope st).names.lookup ("self" : Str) = some .local) (v1 : (defScope st).names.lookup f = some .local) : FnOk P w K mg bh CX0 1 fI fd ["self", f] (sp_init C f) := by
  refine F.ok S (fun vs H Q E h => ?_) (fun cdv A outer s H vs Q E hr h => ?_)
  · obtain ⟨a, v, rfl, _⟩ := h
    rfl
  · obtain ⟨a, v, rfl, ha, q⟩ := h
    rw [hb]
    refine ⟨_, pss_one (ps_ostB (pv 0 rfl (Or.inl v0) (by decide) (by decide)) (pv 1 rfl (Or.inl v1) hf1 hf2)), ?_⟩
    exact ⟨_, rfl, _, rfl, a, C, rfl, O, noF, ha, fun dx n ne => q dx n ne⟩
end
end Spk
namespace Spk
open PySem PySem.Spec PyProof.Rows L2
/-! ### what a spread leaves free -/
def uncZ (us : List Pr) : List Pr := (-10000000000000000000000000000000 :: us.map fun p : Pr => p.2).zip ((us.map fun p : Pr => p.1) ++ [10000000000000000000000000000000])
def uncM (us : List Pr) : List Pr := (uncZ us).filter fun p => decide (p.1 < p.2)
theorem uncZ_len (us : List Pr) : (uncZ us).length = us.length + 1 := by
  unfold uncZ
  rw [List.length_zip, List.length_cons, List.length_append, List.length_map, List.length_map, List.length_singleton]
  omega
theorem strP_edges {p : Pr} (h : strP p = true) : edgeI p.1 = true ∧ edgeI p.2 = true := by
  unfold strP at h
  simp only [Bool.and_eq_true] at h
  exact ⟨h.1.1, h.1.2⟩
theorem uncM_str {us : List Pr} (h : ∀ u ∈ us, strP u = true) : ∀ p ∈ uncM us, strP p = true := by
  intro p hp
  obtain ⟨hz, hl⟩ := List.mem_filter.mp hp
  have hl : p.1 < p.2 := of_decide_eq_true hl
  obtain ⟨h1, h2⟩ := List.of_mem_zip (a := p.1) (b := p.2) hz
  have e1 : edgeI p.1 = true := by
    rcases List.mem_cons.mp h1 with e | h1
    · rw [e]; decide +kernel
    · obtain ⟨u, hu, e⟩ := List.mem_map.mp h1
      rw [← e]; exact (strP_edges (h u hu)).2
  have e2 : edgeI p.2 = true := by
    rcases List.mem_append.mp h2 with h2 | h2
    · obtain ⟨u, hu, e⟩ := List.mem_map.mp h2
      rw [← e]; exact (strP_edges (h u hu)).1
    · rw [List.mem_singleton.mp h2]; decide +kernel
  have b1 : -10000000000000000000000000000000 ≤ p.1 := by
    unfold edgeI at e1
    simp only [Bool.and_eq_true, Bool.or_eq_true, decide_eq_true_eq] at e1
    omega
  have b2 : p.2 ≤ 10000000000000000000000000000000 := by
    unfold edgeI at e2
    simp only [Bool.and_eq_true, Bool.or_eq_true, decide_eq_true_eq] at e2
    omega
  unfold strP
  rw [e1, e2, decide_eq_true (show p.1 ≤ p.2 by omega), decide_eq_true (show p.1 < 10000000000000000000000000000000 by omega), decide_eq_true (show p.2 > -10000000000000000000000000000000 by omega)]
  rfl
theorem uncM_len (us : List Pr) : (uncM us).length ≤ us.length + 1 := by
  refine Nat.le_trans (List.length_filter_le ..) ?_
  rw [uncZ_len]
  exact Nat.le_refl _
/-- Spreads beside Spans, as isinstance asks -/
structure SprI (K : PySem.W.Frag) (CS CD : Addr) : Prop where
  sp : SprC K CD
  sn : SpnC K CS
  self : PySem.W.selfFirst K CD = true
  noS : PySem.W.kitOne K (.ref CD) (.ref CS) = some false
  noI : PySem.W.kitOne K (.ref CD) (.type "int") = some false
  ha : PySem.W.findIn K (.ref CD) "__class__" = some (some (.builtin "object.__class__"))
  hm : PySem.W.mroIn K CD (.type "object") = some true
theorem SprI.ty {K : PySem.W.Frag} {CS CD a dx : Addr} {fs : List (Str × V)} {H : Hp} (c : SprI K CS CD) (e : H a = some (.ins CD dx fs)) : TyX K H (.ref a) (.ref CD) := .base (.ins e c.sp.cl c.ha c.sn.hn c.sn.ht c.hm)
end Spk
namespace Spk
open PySem PySem.Spec PyProof.Rows L2
theorem IsSpr.ins {H : Hp} {C o : Addr} {us : List Pr} (h : IsSpr H C o us) : ∃ dx fs, H o = some (.ins C dx fs) := by
  obtain ⟨dx, t, ts, h1, _⟩ := h
  exact ⟨dx, _, h1⟩
end Spk
namespace Spk
open PySem PySem.Spec PyProof.Rows L2
def invM (us : List Pr) : List Pr := unionM false (uncM us)
def orM (us ws : List Pr) : List Pr := unionM false (us ++ ws)
def subM (us ws : List Pr) : List Pr := invM (orM (invM us) ws)
/-- what the signs want of the pairs of a spread: stretches, at most n of them -/
structure Few (us : List Pr) (n : Nat) : Prop where
  str : ∀ u ∈ us, strP u = true
  len : us.length ≤ n
theorem Few.more {us : List Pr} {n m : Nat} (h : Few us n) (e : n ≤ m) : Few us m := ⟨h.str, Nat.le_trans h.len e⟩
theorem Few.inv {us : List Pr} {n : Nat} (h : Few us n) : Few (invM us) (n + 2) := ⟨fun u hu => (union_edges (uncM_str h.str) u hu).1, Nat.le_trans (union_len false _) (by have := uncM_len us; have := h.len; omega)⟩
theorem str_app {us ws : List Pr} (h : ∀ u ∈ us, strP u = true) (k : ∀ u ∈ ws, strP u = true) : ∀ u ∈ us ++ ws, strP u = true := fun u hu => by
  rcases List.mem_append.mp hu with h' | h'
  · exact h u h'
  · exact k u h'
theorem Few.or {us ws : List Pr} {n m : Nat} (h : Few us n) (k : Few ws m) : Few (orM us ws) (n + m + 1) := ⟨fun u hu => (union_edges (str_app h.str k.str) u hu).1, Nat.le_trans (union_len false _) (by rw [List.length_append]; have := h.len; have := k.len; omega)⟩
theorem Few.sub {us ws : List Pr} {n m : Nat} (h : Few us n) (k : Few ws m) : Few (subM us ws) (n + m + 5) := (h.inv.or k).inv.more (by omega)
end Spk
namespace Spk
open PySem PySem.Spec PyProof.Rows L2
theorem SprI.any {K : PySem.W.Frag} {CS CD : Addr} (c : SprI K CS CD) : PySem.W.kitAny K (.ref CD) [.ref CS, .ref CD] = some true :=
  kitAny_cons c.noS (fun _ => kitAny_cons (kit_self CD) (fun z => nomatch z) fun _ => rfl) (fun z => nomatch z)
end Spk
namespace Spk
open PySem PySem.Spec PyProof.Rows L2
/-! ### the pure layer: what a def computes, as a function of data -/
/-- data as the texts here use it: an instance is its class's name, its fields' names and what they hold -/
inductive D where
  | non | bl (b : Bool) | int (i : Int) | str (x : Str) | lst (ds : List D) | tup (ds : List D) | ins (C : Str) (ks : List Str) (ds : List D) | scr (ns : List Int)
  /-- an exception that was made: its class, its field, what the field holds -/
  | xn (C f : Str) (d : D)
/-- the written part, and where a class of a name stands -/
structure Gx where
  K : PySem.W.Frag
  cm : Str → Addr
  /-- the exception that is handled: where it stands, its class, its dict -/
  ex : Option (Addr × Value × Option Addr) := none
  /-- the tables of code objects: what they are called, the name that the lambdas in them bear -/
  T : List (Str × Str) := []
/-- the tables stand -/
def TabsG (G : Gx) (H : Hp) : Prop := ∀ p ∈ G.T, LamX.TabS H (G.cm p.1) p.2
theorem TabsG.ext {G : Gx} {H H' : Hp} (t : TabsG G H) (e : Same H H') : TabsG G H' := fun p hp => (t p hp).ext fun b o h => e b o h
theorem TabsG.write {G : Gx} {H : Hp} {p : Addr} {o w : HO} (t : TabsG G H) (hp : H p = some o) (n1 : ∀ ps, o ≠ .tbl ps) (n2 : ∀ c q, o ≠ LamX.CodeO c q) : TabsG G (upd H p w) := fun z hz => by
  obtain ⟨ps, h1, h2, h3⟩ := t z hz
  have k : ∀ b u, H b = some u → u ≠ o → upd H p w b = some u := fun b u e n => by
    rw [upd_ne (fun z => n (by rw [z, hp] at e; exact (Option.some.inj e).symm))]; exact e
  refine ⟨ps, k _ _ h1 fun z => n1 ps z.symm, h2, fun pos cv hc => ?_⟩
  obtain ⟨c, e1, e2⟩ := h3 pos cv hc
  exact ⟨c, e1, k _ _ e2 fun z => n2 _ _ z.symm⟩
mutual
inductive Rp (G : Gx) (H : Hp) : V → D → Prop
  | non : Rp G H .non .non
  | bl (b : Bool) : Rp G H (.bl b) (.bl b)
  | int (i : Int) : Rp G H (.int i) (.int i)
  | str {x : Str} (h : PyData.canLay0 (.str x) = true) : Rp G H (.str x) (.str x)
  | lst {a : Addr} {xs : List V} {ds : List D} : H a = some (.lst xs) → RpL G H xs ds → Rp G H (.ref a) (.lst ds)
  | scr {a : Addr} {ns : List Int} : SqL G.K H a (ns.map V.int) → Rp G H (.ref a) (.scr ns)
  | tup {a : Addr} {xs : List V} {ds : List D} : SqT G.K H a xs → RpL G H xs ds → Rp G H (.ref a) (.tup ds)
  | ins {a dx : Addr} {C : Str} {ks : List Str} {xs : List V} {ds : List D} : H a = some (.ins (G.cm C) dx (ks.zip xs)) → xs.length = ks.length → RpL G H xs ds → Rp G H (.ref a) (.ins C ks ds)
  | xn {a dx : Addr} {C f : Str} {v : V} {d : D} : H a = some (exo a (G.cm C) (some dx)) → H dx = some (exd dx [(f, v)]) → Rp G H v d → Rp G H (.ref a) (.xn C f d)
inductive RpL (G : Gx) (H : Hp) : List V → List D → Prop
  | nil : RpL G H [] []
  | cons {v : V} {vs : List V} {d : D} {ds : List D} : Rp G H v d → RpL G H vs ds → RpL G H (v :: vs) (d :: ds)
end
section
variable {G : Gx} {H H' : Hp}
mutual
theorem Rp.same (e : Same H H') : ∀ (d : D) {v : V}, Rp G H v d → Rp G H' v d
  | .non, _, h => by cases h; exact .non
  | .bl b, _, h => by cases h; exact .bl b
  | .int i, _, h => by cases h; exact .int i
  | .str x, _, h => by cases h with | str h => exact .str h
  | .lst ds, _, h => by cases h with | lst q r => exact .lst (e _ _ q) (RpL.same e ds r)
  | .scr ns, _, h => by cases h with | scr q => exact .scr (e.seq q)
  | .tup ds, _, h => by cases h with | tup q r => exact .tup (sameT e q) (RpL.same e ds r)
  | .ins C ks ds, _, h => by cases h with | ins q l r => exact .ins (e _ _ q) l (RpL.same e ds r)
  | .xn C f d, _, h => by cases h with | xn q1 q2 r => exact .xn (e _ _ q1) (e _ _ q2) (Rp.same e d r)
theorem RpL.same (e : Same H H') : ∀ (ds : List D) {vs : List V}, RpL G H vs ds → RpL G H' vs ds
  | [], _, h => by cases h; exact .nil
  | d :: ds, _, h => by cases h with | cons a b => exact .cons (Rp.same e d a) (RpL.same e ds b)
end
theorem Rp.mono {v : V} {d : D} (h : Rp G H v d) (e : Same H H') : Rp G H' v d := Rp.same e d h
theorem RpL.mono {vs : List V} {ds : List D} (h : RpL G H vs ds) (e : Same H H') : RpL G H' vs ds := RpL.same e ds h
theorem RpL.len : ∀ {vs : List V} {ds : List D}, RpL G H vs ds → vs.length = ds.length
  | _, _, .nil => rfl
  | _, _, .cons _ r => congrArg (· + 1) (RpL.len r)
theorem RpL.getD : ∀ {vs : List V} {ds : List D}, RpL G H vs ds → ∀ {i : Nat} {d : D}, ds[i]? = some d → ∃ v, vs[i]? = some v ∧ Rp G H v d
  | _, _, .nil, _, _, e => by simp at e
  | _, _, .cons r _, 0, v, e => by
    obtain rfl := Option.some.inj (by simpa using e)
    exact ⟨_, rfl, r⟩
  | _, _, .cons _ t, i + 1, v, e => by
    obtain ⟨d, h1, h2⟩ := RpL.getD t (i := i) (d := v) (by simpa using e)
    exact ⟨d, by simpa using h1, h2⟩
theorem RpL.app : ∀ {vs : List V} {ds : List D} {ws : List V} {es : List D}, RpL G H vs ds → RpL G H ws es → RpL G H (vs ++ ws) (ds ++ es)
  | _, _, _, _, .nil, s => s
  | _, _, _, _, .cons r t, s => .cons r (RpL.app t s)
theorem RpL.take : ∀ {vs : List V} {ds : List D} (n : Nat), RpL G H vs ds → RpL G H (vs.take n) (ds.take n)
  | _, _, 0, _ => .nil
  | _, _, _ + 1, .nil => .nil
  | _, _, n + 1, .cons r t => .cons r (RpL.take n t)
theorem RpL.drop : ∀ {vs : List V} {ds : List D} (n : Nat), RpL G H vs ds → RpL G H (vs.drop n) (ds.drop n)
  | _, _, 0, r => r
  | _, _, _ + 1, .nil => .nil
  | _, _, n + 1, .cons _ t => RpL.drop n t
theorem RpL.set {v : V} {d : D} (r : Rp G H v d) : ∀ {vs : List V} {ds : List D} (i : Nat), RpL G H vs ds → RpL G H (vs.set i v) (ds.set i d)
  | _, _, _, .nil => .nil
  | _, _, 0, .cons _ t => .cons r t
  | _, _, i + 1, .cons q t => .cons q (RpL.set r i t)
end
/-! ### a def's names: what their slots hold -/
/-- not known; frozen data; a list of one's own (it may change); the caller's list (it may change, and stays where it is) -/
inductive Mu where
  | lst (ds : List D) | obj (C : Str) (ks : List Str) (ds : List D) | dct (ks : List Key) (ds : List D)
inductive Cell where
  | no | val (d : D) | own (m : Mu) | bor (m : Mu)
  /-- the exception that is handled -/
  | exn (C f : Str) (d : D)
abbrev PEnv := List Cell
def Cell.mu? : Cell → Option Mu
  | .own m => some m
  | .bor m => some m
  | _ => none
def Mu.lst? : Mu → Option (List D)
  | .lst ds => some ds
  | _ => none
def Cell.lst? (c : Cell) : Option (List D) := c.mu?.bind Mu.lst?
theorem Cell.of_lst {c : Cell} {ds : List D} (h : c.lst? = some ds) : c.mu? = some (.lst ds) := by
  obtain ⟨m, h1, h2⟩ := Option.bind_eq_some_iff.mp h
  cases m with
  | lst es => cases h2; exact h1
  | obj C ks es => cases h2
  | dct ks es => cases h2
def MuOk (G : Gx) (Hf : Hp) : HO → Mu → Prop
  | .lst vs, .lst ds => RpL G Hf vs ds
  | .ins c _ fs, .obj C ks ds => c = G.cm C ∧ ∃ vs, fs = ks.zip vs ∧ vs.length = ks.length ∧ RpL G Hf vs ds
  | .dK kvs, .dct ks ds => ∃ vs, kvs = ks.zip vs ∧ vs.length = ks.length ∧ RpL G Hf vs ds
  | _, _ => False
theorem MuOk.mono {G : Gx} {Hf Hf' : Hp} {o : HO} {m : Mu} (h : MuOk G Hf o m) (s : Same Hf Hf') : MuOk G Hf' o m := by
  cases m with
  | lst ds =>
    cases o <;> try exact h
    exact RpL.mono h s
  | obj C ks ds =>
    cases o <;> try exact h
    obtain ⟨e, vs, e2, l, r⟩ := h
    exact ⟨e, vs, e2, l, r.mono s⟩
  | dct ks ds =>
    cases o <;> try exact h
    obtain ⟨vs, e2, l, r⟩ := h
    exact ⟨vs, e2, l, r.mono s⟩
theorem MuOk.lst {G : Gx} {Hf : Hp} {o : HO} {ds : List D} (h : MuOk G Hf o (.lst ds)) : ∃ vs, o = .lst vs ∧ RpL G Hf vs ds := by
  cases o <;> try exact h.elim
  exact ⟨_, rfl, h⟩
theorem TabsG.lst {G : Gx} {H : Hp} {p : Addr} {xs : List V} {w : HO} (t : TabsG G H) (hp : H p = some (.lst xs)) : TabsG G (upd H p w) := t.write hp (fun _ z => by cases z) fun c q z => by unfold LamX.CodeO at z; cases z
theorem mu_tbl {G : Gx} {Hf : Hp} {ps : Array Value} {m : Mu} (h : MuOk G Hf (.tbl ps) m) : False := by cases m <;> exact h
theorem mu_code {G : Gx} {Hf : Hp} {c : Addr} {q : Str} {m : Mu} (h : MuOk G Hf (LamX.CodeO c q) m) : False := by cases m <;> exact h
/-- what a def must leave alone; where the caller's lists stand -/
structure Fr where
  Pt : Hp
  Bp : Nat → Addr
/-- the tables of code objects stand; no table is protected or frozen, it may grow -/
structure TB (G : Gx) (F : Fr) (H Hf : Hp) : Prop where
  tb : TabsG G H
  nt : ∀ (a : Addr) (ps : Array Value), F.Pt a ≠ some (.tbl ps)
  nf : ∀ (a : Addr) (ps : Array Value), Hf a ≠ some (.tbl ps)
theorem upd_nf {Hf : Hp} {q : Addr} {o : HO} (h : ∀ (a : Addr) (ps : Array Value), Hf a ≠ some (.tbl ps)) (nl : ∀ ps, o ≠ .tbl ps) : ∀ (a : Addr) (ps : Array Value), upd Hf q o a ≠ some (.tbl ps) := fun a ps e => by
  by_cases c : a = q
  · rw [c, upd_same] at e; exact nl ps (Option.some.inj e)
  · rw [upd_ne c] at e; exact h a ps e
theorem TB.ext {G : Gx} {F : Fr} {H H' Hf : Hp} (t : TB G F H Hf) (e : Same H H') : TB G F H' Hf := ⟨t.tb.ext e, t.nt, t.nf⟩
theorem TB.lst {G : Gx} {F : Fr} {H Hf : Hp} {p : Addr} {xs : List V} {w : HO} (t : TB G F H Hf) (hp : H p = some (.lst xs)) : TB G F (upd H p w) Hf := ⟨t.tb.lst hp, t.nt, t.nf⟩
structure MutOk (G : Gx) (F : Fr) (σ : L2.St) (H Hf : Hp) (i : Nat) (m : Mu) (p : Addr) : Prop where
  at_ : σ[i]? = some (some (.ref p))
  nf : Hf p = none
  np : F.Pt p = none
  ls : ∃ o, H p = some o ∧ MuOk G Hf o m
def CellOk (G : Gx) (F : Fr) (σ : L2.St) (H Hf : Hp) (i : Nat) : Cell → Prop
  | .no => True
  | .val d => ∃ v, σ[i]? = some (some v) ∧ Rp G Hf v d
  | .own ds => ∃ p, MutOk G F σ H Hf i ds p
  | .bor ds => MutOk G F σ H Hf i ds (F.Bp i)
  | .exn C f d => ∃ (a dd : Addr) (v : V), G.ex = some (a, .ref (G.cm C), some dd) ∧ σ[i]? = some (some (.ref a)) ∧ Hf dd = some (.xd [(f, v)]) ∧ Rp G Hf v d
theorem CellOk.mut {G : Gx} {F : Fr} {σ : L2.St} {H Hf : Hp} {i : Nat} {c : Cell} {ds : Mu} (h : CellOk G F σ H Hf i c) (e : c.mu? = some ds) : ∃ p, MutOk G F σ H Hf i ds p := by
  cases c with
  | no => cases e
  | val d => cases e
  | own es => obtain rfl := Option.some.inj e; exact h
  | bor es => obtain rfl := Option.some.inj e; exact ⟨_, h⟩
  | exn C f d => cases e
structure Rep (G : Gx) (F : Fr) (σ : L2.St) (H Hf : Hp) (ρ : PEnv) : Prop where
  len : σ.length = ρ.length
  sub : Same Hf H
  cell : ∀ (i : Nat) (c : Cell), ρ[i]? = some c → CellOk G F σ H Hf i c
  apart : ∀ (i j : Nat) (ci cj : Cell) (ds es : Mu) (p : Addr), ρ[i]? = some ci → ρ[j]? = some cj → ci.mu? = some ds → cj.mu? = some es → σ[i]? = some (some (.ref p)) → σ[j]? = some (some (.ref p)) → i = j
  prot : ∀ (a : Addr) (o : HO), F.Pt a = some o → H a = some o ∧ Hf a = none
  tabs : TB G F H Hf
section
variable {G : Gx} {F : Fr} {σ : L2.St} {H Hf H' Hf' : Hp} {ρ : PEnv}
theorem MutOk.ne {i : Nat} {ds : Mu} {p q : Addr} (m : MutOk G F σ H Hf i ds p) (nq : H q = none) : p ≠ q := by
  obtain ⟨vs, h, _⟩ := m.ls
  exact ne_of_none h nq
theorem Rep.nf (R : Rep G F σ H Hf ρ) {q : Addr} (nq : H q = none) : Hf q = none := R.sub.free nq
/-- a new frozen object -/
theorem Rep.new (R : Rep G F σ H Hf ρ) {q : Addr} (nq : H q = none) (o : HO) (nl : ∀ ps, o ≠ .tbl ps := by intro _ z; cases z) : Rep G F σ (upd H q o) (upd Hf q o) ρ := by
  have nf := R.nf nq
  refine ⟨R.len, fun b u e => ?_, fun i c e => ?_, R.apart, fun a u e => ?_, ⟨(R.tabs.ext (Same.new nq)).tb, R.tabs.nt, upd_nf R.tabs.nf nl⟩⟩
  · by_cases h : b = q
    · subst h; rw [upd_same] at e ⊢; exact e
    · rw [upd_ne h] at e ⊢; exact R.sub _ _ e
  · have k := R.cell i c e
    have mk : ∀ ds p, MutOk G F σ H Hf i ds p → MutOk G F σ (upd H q o) (upd Hf q o) i ds p := fun ds p m => by
      obtain ⟨vs, h, r⟩ := m.ls
      have n := m.ne nq
      exact ⟨m.at_, by rw [upd_ne n]; exact m.nf, m.np, vs, by rw [upd_ne n]; exact h, r.mono (Same.new nf)⟩
    cases c with
    | no => trivial
    | val d => obtain ⟨v, h, r⟩ := k; exact ⟨v, h, r.mono (Same.new nf)⟩
    | own ds => obtain ⟨p, m⟩ := k; exact ⟨p, mk _ _ m⟩
    | bor ds => exact mk _ _ k
    | exn C f d => obtain ⟨a, dd, v, h0, h1, h2, r⟩ := k; exact ⟨a, dd, v, h0, h1, Same.new nf _ _ h2, r.mono (Same.new nf)⟩
  · obtain ⟨h1, h2⟩ := R.prot a u e
    have n := ne_of_none h1 nq
    exact ⟨by rw [upd_ne n]; exact h1, by rw [upd_ne n]; exact h2⟩
/-- a new object that nothing frozen knows of -/
theorem Rep.side (R : Rep G F σ H Hf ρ) {q : Addr} (nq : H q = none) (o : HO) : Rep G F σ (upd H q o) Hf ρ := by
  refine ⟨R.len, R.sub.trans (Same.new nq), fun i c e => ?_, R.apart, fun a u e => ?_, R.tabs.ext (Same.new nq)⟩
  · have k := R.cell i c e
    have mk : ∀ ds p, MutOk G F σ H Hf i ds p → MutOk G F σ (upd H q o) Hf i ds p := fun ds p m => by
      obtain ⟨vs, h, r⟩ := m.ls
      exact ⟨m.at_, m.nf, m.np, vs, by rw [upd_ne (m.ne nq)]; exact h, r⟩
    cases c with
    | no => trivial
    | val d => exact k
    | own ds => obtain ⟨p, m⟩ := k; exact ⟨p, mk _ _ m⟩
    | bor ds => exact mk _ _ k
    | exn C f d => exact k
  · obtain ⟨h1, h2⟩ := R.prot a u e
    exact ⟨by rw [upd_ne (ne_of_none h1 nq)]; exact h1, h2⟩
theorem set_at {α : Type} {l : List α} {i j : Nat} {x y : α} (h : (l.set i x)[j]? = some y) : (i = j ∧ y = x ∧ i < l.length) ∨ (i ≠ j ∧ l[j]? = some y) := by
  by_cases e : i = j
  · subst e
    by_cases hl : i < l.length
    · rw [List.getElem?_set_self hl] at h
      exact .inl ⟨rfl, (Option.some.inj h).symm, hl⟩
    · rw [List.getElem?_eq_none (by simpa using hl)] at h
      cases h
  · rw [List.getElem?_set_ne e] at h
    exact .inr ⟨e, h⟩
/-- a slot gets frozen data -/
theorem Rep.set (R : Rep G F σ H Hf ρ) (i : Nat) {v : V} {d : D} (r : Rp G Hf v d) : Rep G F (σ.set i (some v)) H Hf (ρ.set i (.val d)) := by
  refine ⟨by rw [List.length_set, List.length_set]; exact R.len, R.sub, fun j c e => ?_, fun j k cj ck ds es p ej ek mj mk sj sk => ?_, R.prot, R.tabs⟩
  · rcases set_at e with ⟨rfl, rfl, hl⟩ | ⟨ne, e⟩
    · exact ⟨v, by rw [List.getElem?_set_self (by rw [R.len]; exact hl)], r⟩
    · have k := R.cell j c e
      have mk : ∀ ds p, MutOk G F σ H Hf j ds p → MutOk G F (σ.set i (some v)) H Hf j ds p := fun ds p m => ⟨by rw [List.getElem?_set_ne ne]; exact m.at_, m.nf, m.np, m.ls⟩
      cases c with
      | no => trivial
      | val d => obtain ⟨w, h, r⟩ := k; exact ⟨w, by rw [List.getElem?_set_ne ne]; exact h, r⟩
      | own ds => obtain ⟨p, m⟩ := k; exact ⟨p, mk _ _ m⟩
      | bor ds => exact mk _ _ k
      | exn C f d => obtain ⟨a, dd, v, h0, h1, h2, r⟩ := k; exact ⟨a, dd, v, h0, by rw [List.getElem?_set_ne ne]; exact h1, h2, r⟩
  · rcases set_at ej with ⟨rfl, rfl, _⟩ | ⟨n1, ej⟩
    · cases mj
    rcases set_at ek with ⟨rfl, rfl, _⟩ | ⟨n2, ek⟩
    · cases mk
    rw [List.getElem?_set_ne n1] at sj
    rw [List.getElem?_set_ne n2] at sk
    exact R.apart j k cj ck ds es p ej ek mj mk sj sk
/-- a slot gets a list of its own -/
theorem Rep.setOwn (R : Rep G F σ H Hf ρ) (i : Nat) {p : Addr} {o : HO} {ds : Mu} (hp : H p = some o) (nf : Hf p = none) (np : F.Pt p = none) (r : MuOk G Hf o ds)
    (ap : ∀ (j : Nat) (c : Cell) (es : Mu), ρ[j]? = some c → c.mu? = some es → σ[j]? ≠ some (some (.ref p))) : Rep G F (σ.set i (some (.ref p))) H Hf (ρ.set i (.own ds)) := by
  refine ⟨by rw [List.length_set, List.length_set]; exact R.len, R.sub, fun j c e => ?_, fun j k cj ck es fs q ej ek mj mk sj sk => ?_, R.prot, R.tabs⟩
  · rcases set_at e with ⟨rfl, rfl, hl⟩ | ⟨ne, e⟩
    · exact ⟨p, by rw [List.getElem?_set_self (by rw [R.len]; exact hl)], nf, np, o, hp, r⟩
    · have k := R.cell j c e
      have mk : ∀ ds q, MutOk G F σ H Hf j ds q → MutOk G F (σ.set i (some (.ref p))) H Hf j ds q := fun ds q m => ⟨by rw [List.getElem?_set_ne ne]; exact m.at_, m.nf, m.np, m.ls⟩
      cases c with
      | no => trivial
      | val d => obtain ⟨w, h, r⟩ := k; exact ⟨w, by rw [List.getElem?_set_ne ne]; exact h, r⟩
      | own ds => obtain ⟨q, m⟩ := k; exact ⟨q, mk _ _ m⟩
      | bor ds => exact mk _ _ k
      | exn C f d => obtain ⟨a, dd, v, h0, h1, h2, r⟩ := k; exact ⟨a, dd, v, h0, by rw [List.getElem?_set_ne ne]; exact h1, h2, r⟩
  · rcases set_at ej with ⟨rfl, rfl, hl⟩ | ⟨n1, ej⟩ <;> rcases set_at ek with ⟨rfl, rfl, hl2⟩ | ⟨n2, ek⟩
    · rfl
    · rw [List.getElem?_set_self (by rw [R.len]; exact hl)] at sj
      rw [List.getElem?_set_ne n2] at sk
      cases sj
      exact absurd sk (ap k ck fs ek mk)
    · rw [List.getElem?_set_self (by rw [R.len]; exact hl2)] at sk
      rw [List.getElem?_set_ne n1] at sj
      cases sk
      exact absurd sj (ap j cj es ej mj)
    · rw [List.getElem?_set_ne n1] at sj
      rw [List.getElem?_set_ne n2] at sk
      exact R.apart j k cj ck es fs q ej ek mj mk sj sk
/-- a slot forgotten -/
theorem Rep.drop (R : Rep G F σ H Hf ρ) (i : Nat) (x : Option V) : Rep G F (σ.set i x) H Hf (ρ.set i .no) := by
  refine ⟨by rw [List.length_set, List.length_set]; exact R.len, R.sub, fun j c e => ?_, fun j k cj ck ds es p ej ek mj mk sj sk => ?_, R.prot, R.tabs⟩
  · rcases set_at e with ⟨rfl, rfl, hl⟩ | ⟨ne, e⟩
    · trivial
    · have k := R.cell j c e
      have mk : ∀ ds p, MutOk G F σ H Hf j ds p → MutOk G F (σ.set i x) H Hf j ds p := fun ds p m => ⟨by rw [List.getElem?_set_ne ne]; exact m.at_, m.nf, m.np, m.ls⟩
      cases c with
      | no => trivial
      | val d => obtain ⟨w, h, r⟩ := k; exact ⟨w, by rw [List.getElem?_set_ne ne]; exact h, r⟩
      | own ds => obtain ⟨p, m⟩ := k; exact ⟨p, mk _ _ m⟩
      | bor ds => exact mk _ _ k
      | exn C f d => obtain ⟨a, dd, v, h0, h1, h2, r⟩ := k; exact ⟨a, dd, v, h0, by rw [List.getElem?_set_ne ne]; exact h1, h2, r⟩
  · rcases set_at ej with ⟨rfl, rfl, _⟩ | ⟨n1, ej⟩
    · cases mj
    rcases set_at ek with ⟨rfl, rfl, _⟩ | ⟨n2, ek⟩
    · cases mk
    rw [List.getElem?_set_ne n1] at sj
    rw [List.getElem?_set_ne n2] at sk
    exact R.apart j k cj ck ds es p ej ek mj mk sj sk
def Cell.put (c : Cell) (ds : Mu) : Cell := match c with
  | .bor _ => .bor ds
  | _ => .own ds
/-- the list in a slot is changed -/
theorem Rep.write (R : Rep G F σ H Hf ρ) {i : Nat} {c : Cell} {ds : Mu} (e : ρ[i]? = some c) (ec : c.mu? = some ds) {p : Addr} (hs : σ[i]? = some (some (.ref p))) {ws : HO} {es : Mu} (r : MuOk G Hf ws es) :
    Rep G F σ (upd H p ws) Hf (ρ.set i (c.put es)) := by
  obtain ⟨p', m⟩ := (R.cell i c e).mut ec
  obtain rfl : p' = p := by
    have := m.at_
    rw [hs] at this
    cases this; rfl
  have hi : i < ρ.length := (List.getElem?_eq_some_iff.mp e).1
  refine ⟨by rw [List.length_set]; exact R.len, fun b o eb => ?_, fun j cj ej => ?_, fun j k cj ck es fs q ej ek mj mk sj sk => ?_, fun a o ea => ?_, ?_⟩
  · rw [upd_ne (ne_of_none eb m.nf)]; exact R.sub _ _ eb
  · rcases set_at ej with ⟨rfl, rfl, hl⟩ | ⟨ne, ej⟩
    · have new : MutOk G F σ (upd H p' ws) Hf i es p' := ⟨hs, m.nf, m.np, ws, upd_same, r⟩
      have k := R.cell i c e
      cases c with
      | no => cases ec
      | val d => cases ec
      | exn C f d => cases ec
      | own ds => exact ⟨p', new⟩
      | bor ds =>
        have : F.Bp i = p' := by
          have h := (show MutOk G F σ H Hf i ds (F.Bp i) from k).at_
          rw [hs] at h
          cases h; rfl
        show MutOk G F σ (upd H p' ws) Hf i es (F.Bp i)
        rw [this]; exact new
    · have k := R.cell j cj ej
      have mk : ∀ ds' q, cj.mu? = some ds' → MutOk G F σ H Hf j ds' q → MutOk G F σ (upd H p' ws) Hf j ds' q := fun ds' q mj m' => by
        obtain ⟨vs, h, r'⟩ := m'.ls
        have nq : q ≠ p' := fun z => ne (R.apart i j c cj ds ds' p' e ej ec mj hs (z ▸ m'.at_))
        exact ⟨m'.at_, m'.nf, m'.np, vs, by rw [upd_ne nq]; exact h, r'⟩
      cases cj with
      | no => trivial
      | val d => exact k
      | own ds => obtain ⟨q, m'⟩ := k; exact ⟨q, mk _ _ rfl m'⟩
      | bor ds => exact mk _ _ rfl k
      | exn C f d => exact k
  · rcases set_at ej with ⟨rfl, rfl, _⟩ | ⟨n1, ej⟩ <;> rcases set_at ek with ⟨rfl, rfl, _⟩ | ⟨n2, ek⟩
    · rfl
    · exact R.apart i k c ck ds fs q e ek ec mk sj sk
    · exact R.apart j i cj c es ds q ej e mj ec sj sk
    · exact R.apart j k cj ck es fs q ej ek mj mk sj sk
  · obtain ⟨h1, h2⟩ := R.prot a o ea
    have : a ≠ p' := fun z => by rw [z, m.np] at ea; cases ea
    exact ⟨by rw [upd_ne this]; exact h1, h2⟩
  · obtain ⟨o0, hp, r0⟩ := m.ls
    refine ⟨R.tabs.tb.write hp ?_ ?_, R.tabs.nt, R.tabs.nf⟩
    all_goals first | exact fun ps z => by subst z; exact mu_tbl r0 | exact fun c q z => by subst z; exact mu_code r0
end
end Spk
namespace Spk
open PySem PySem.Spec PyProof.Rows L2
/-! ### what an expression, a statement computes -/
inductive Rs (α : Type) where
  | ok (a : α) (ρ : PEnv) | exc (C f : Str) (d : D) (ρ : PEnv) | bad
namespace Rs
def bind {α β : Type} : Rs α → (α → PEnv → Rs β) → Rs β
  | .ok a ρ, k => k a ρ
  | .exc C f d ρ, _ => .exc C f d ρ
  | .bad, _ => .bad
@[simp] theorem bind_ok {α β : Type} {a : α} {ρ : PEnv} {k : α → PEnv → Rs β} : (Rs.ok a ρ).bind k = k a ρ := rfl
@[simp] theorem bind_exc {α β : Type} {C f : Str} {d : D} {ρ : PEnv} {k : α → PEnv → Rs β} : (Rs.exc C f d ρ : Rs α).bind k = .exc C f d ρ := rfl
@[simp] theorem bind_bad {α β : Type} {k : α → PEnv → Rs β} : (Rs.bad : Rs α).bind k = .bad := rfl
def lift {α : Type} : Option α → PEnv → Rs α
  | some a, ρ => .ok a ρ
  | none, _ => .bad
@[simp] theorem lift_some {α : Type} {a : α} {ρ : PEnv} : lift (some a) ρ = .ok a ρ := rfl
@[simp] theorem lift_none {α : Type} {ρ : PEnv} : lift (none : Option α) ρ = .bad := rfl
end Rs
abbrev EX := PEnv → Rs D
/-- what is handed on: frozen data, or the slot of a list of one's own -/
inductive Arg where
  | val (d : D) | sl (i : Nat)
/-- an operand: an expression, or a name whose slot has a list of one's own -/
inductive Opd where
  | ex (f : EX) | sl (i : Nat)
def Arg.dat (ρ : PEnv) : Arg → Option D
  | .val d => some d
  | .sl i => (ρ[i]?.bind Cell.lst?).map D.lst
def Opd.ev : Opd → PEnv → Rs Arg
  | .ex f, ρ => (f ρ).bind fun d ρ' => .ok (.val d) ρ'
  | .sl i, ρ => match ρ[i]?.bind Cell.mu? with
    | some _ => .ok (.sl i) ρ
    | none => .bad
def evs : List Opd → PEnv → Rs (List Arg)
  | [], ρ => .ok [] ρ
  | o :: os, ρ => (o.ev ρ).bind fun a ρ1 => (evs os ρ1).bind fun as ρ2 => .ok (a :: as) ρ2
def dats (ρ : PEnv) : List Arg → Option (List D)
  | [] => some []
  | a :: as => (a.dat ρ).bind fun d => (dats ρ as).map (d :: ·)
section
variable {G : Gx} {F : Fr} {σ : L2.St} {H Hf H' Hf' : Hp} {ρ ρ' : PEnv}
def ArgOk (G : Gx) (σ : L2.St) (Hf : Hp) (v : V) : Arg → Prop
  | .val d => Rp G Hf v d
  | .sl i => σ[i]? = some (some v)
theorem ArgOk.mono {v : V} {a : Arg} (h : ArgOk G σ Hf v a) (s : Same Hf Hf') : ArgOk G σ Hf' v a := by
  cases a with
  | val d => exact Rp.mono h s
  | sl i => exact h
/-- what is handed on, as one may read it -/
def Rq (G : Gx) (H Hf : Hp) (v : V) (d : D) : Prop := Rp G Hf v d ∨ ∃ p vs ds, v = .ref p ∧ d = .lst ds ∧ H p = some (.lst vs) ∧ RpL G Hf vs ds
theorem Rq.rp {v : V} {d : D} (h : Rq G H Hf v d) (s : Same Hf H) : Rp G H v d := by
  rcases h with h | ⟨p, vs, ds, rfl, rfl, hp, r⟩
  · exact h.mono s
  · exact .lst hp (r.mono s)
theorem Rq.lst {v : V} {ds : List D} (h : Rq G H Hf v (.lst ds)) (s : Same Hf H) : ∃ p vs, v = .ref p ∧ H p = some (.lst vs) ∧ RpL G Hf vs ds := by
  rcases h with h | ⟨p, vs, es, rfl, e, hp, r⟩
  · cases h with | lst q r => exact ⟨_, _, rfl, s _ _ q, r⟩
  · cases e; exact ⟨p, vs, rfl, hp, r⟩
theorem Rq.nl {v : V} {d : D} (h : Rq G H Hf v d) (n : ∀ ds, d ≠ .lst ds) : Rp G Hf v d := by
  rcases h with h | ⟨p, vs, es, rfl, e, hp, r⟩
  · exact h
  · exact absurd e (n es)
theorem ArgOk.rq {v : V} {a : Arg} {d : D} (R : Rep G F σ H Hf ρ) (h : ArgOk G σ Hf v a) (e : a.dat ρ = some d) : Rq G H Hf v d := by
  cases a with
  | val d' => cases e; exact .inl h
  | sl i =>
    cases hc : ρ[i]? with
    | none => simp [Arg.dat, hc] at e
    | some c =>
      cases hl : c.lst? with
      | none => simp [Arg.dat, hc, hl] at e
      | some ds =>
        simp [Arg.dat, hc, hl] at e
        subst e
        obtain ⟨p, m⟩ := (R.cell i c hc).mut (Cell.of_lst hl)
        obtain ⟨o0, hp, r0⟩ := m.ls
        obtain ⟨vs, rfl, r⟩ := r0.lst
        have h : σ[i]? = some (some v) := h
        rw [m.at_] at h
        cases h
        exact .inr ⟨p, vs, ds, rfl, rfl, hp, r⟩
inductive ArgsOk (G : Gx) (σ : L2.St) (Hf : Hp) : List V → List Arg → Prop
  | nil : ArgsOk G σ Hf [] []
  | cons {v : V} {vs : List V} {a : Arg} {as : List Arg} : ArgOk G σ Hf v a → ArgsOk G σ Hf vs as → ArgsOk G σ Hf (v :: vs) (a :: as)
inductive RqL (G : Gx) (H Hf : Hp) : List V → List D → Prop
  | nil : RqL G H Hf [] []
  | cons {v : V} {vs : List V} {d : D} {ds : List D} : Rq G H Hf v d → RqL G H Hf vs ds → RqL G H Hf (v :: vs) (d :: ds)
theorem ArgsOk.rq (R : Rep G F σ H Hf ρ) : ∀ {vs : List V} {as : List Arg} {ds : List D}, ArgsOk G σ Hf vs as → dats ρ as = some ds → RqL G H Hf vs ds
  | _, _, _, .nil, e => by cases e; exact .nil
  | _, _, _, .cons (a := a) (as := as) h t, e => by
    unfold dats at e
    cases h1 : a.dat ρ with
    | none => simp [h1] at e
    | some d =>
      cases h2 : dats ρ as with
      | none => simp [h1, h2] at e
      | some ds =>
        simp [h1, h2] at e
        subst e
        exact .cons (ArgOk.rq R h h1) (ArgsOk.rq R t h2)
/-! ### the judgements -/
/-- behind an expression -/
def PostE {α : Type} (G : Gx) (F : Fr) (W : WX) (σ : L2.St) (Hf : Hp) (Q : α → Hp → Hp → PEnv → Prop) : Rs α → Prop
  | .ok a ρ' => ∀ H' Hf', Rep G F σ H' Hf' ρ' → Same Hf Hf' → Q a H' Hf' ρ'
  | .exc C f d ρ' => ∀ v dd H' Hf', Rep G F σ H' Hf' ρ' → Same Hf Hf' → Rp G Hf' v d → Hf' dd = some (.xd [(f, v)]) → W (.ref (G.cm C)) (some dd) σ H'
  | .bad => False
theorem PostE.mono {α : Type} {W : WX} {Q : α → Hp → Hp → PEnv → Prop} {r : Rs α} (h : PostE G F W σ Hf Q r) (s : Same Hf Hf') : PostE G F W σ Hf' Q r := by
  cases r with
  | ok a ρ' => exact fun H2 Hf2 R t => h H2 Hf2 R (s.trans t)
  | exc C f d ρ' => exact fun v dd H2 Hf2 R t => h v dd H2 Hf2 R (s.trans t)
  | bad => exact h
theorem PostE.imp {α : Type} {W : WX} {Q Q' : α → Hp → Hp → PEnv → Prop} {r : Rs α} (h : PostE G F W σ Hf Q r) (k : ∀ a H' Hf' ρ', r = .ok a ρ' → Rep G F σ H' Hf' ρ' → Same Hf Hf' → Q a H' Hf' ρ' → Q' a H' Hf' ρ') : PostE G F W σ Hf Q' r := by
  cases r with
  | ok a ρ' => exact fun H2 Hf2 R t => k _ _ _ _ rfl R t (h H2 Hf2 R t)
  | exc C f d ρ' => exact h
  | bad => exact h
theorem PostE.bind {α β : Type} {W : WX} {Q : β → Hp → Hp → PEnv → Prop} {r : Rs α} {k : α → PEnv → Rs β} (h : PostE G F W σ Hf Q (r.bind k)) :
    PostE G F W σ Hf (fun a _ Hf' ρ' => PostE G F W σ Hf' Q (k a ρ')) r := by
  cases r with
  | ok a ρ' => exact fun H2 Hf2 R t => PostE.mono h t
  | exc C f d ρ' => exact h
  | bad => exact h
end
/-- an operand -/
def DO (G : Gx) (X : Cx) (W : WX) (e : Expr) (o : Opd) : Prop := ∃ t, PE X e t ∧ ∀ (F : Fr) (σ : L2.St) (H Hf : Hp) (ρ : PEnv) (Q : VK), Rep G F σ H Hf ρ →
  PostE G F W σ Hf (fun a H' Hf' _ => ∀ v, ArgOk G σ Hf' v a → Q v H') (o.ev ρ) → t σ H Q
abbrev DE (G : Gx) (X : Cx) (W : WX) (e : Expr) (f : EX) : Prop := DO G X W e (.ex f)
/-- a list of operands -/
def DA (G : Gx) (X : Cx) (W : WX) (es : List Expr) (os : List Opd) : Prop := ∃ t, PA X es t ∧ ∀ (F : Fr) (σ : L2.St) (H Hf : Hp) (ρ : PEnv) (Q : List V → Hp → Prop), Rep G F σ H Hf ρ →
  PostE G F W σ Hf (fun as H' Hf' _ => ∀ vs, ArgsOk G σ Hf' vs as → Q vs H') (evs os ρ) → t σ H Q
section
variable {G : Gx} {X : Cx} {W : WX} {e : Expr} {es : List Expr} {o : Opd} {os : List Opd} {f : EX}
theorem DE.intro (h : ∃ t, PE X e t ∧ ∀ (F : Fr) (σ : L2.St) (H Hf : Hp) (ρ : PEnv) (Q : VK), Rep G F σ H Hf ρ →
    PostE G F W σ Hf (fun d H' Hf' _ => ∀ v, Rp G Hf' v d → Q v H') (f ρ) → t σ H Q) : DE G X W e f := by
  obtain ⟨t, h1, h2⟩ := h
  refine ⟨t, h1, fun F σ H Hf ρ Q R p => h2 F σ H Hf ρ Q R ?_⟩
  exact (PostE.bind p).imp fun a H' Hf' ρ' _ R' s q v r => q H' Hf' R' (Same.refl _) v r
theorem DE.elim (h : DE G X W e f) : ∃ t, PE X e t ∧ ∀ (F : Fr) (σ : L2.St) (H Hf : Hp) (ρ : PEnv) (Q : VK), Rep G F σ H Hf ρ →
    PostE G F W σ Hf (fun d H' Hf' _ => ∀ v, Rp G Hf' v d → Q v H') (f ρ) → t σ H Q := by
  obtain ⟨t, h1, h2⟩ := h
  refine ⟨t, h1, fun F σ H Hf ρ Q R p => h2 F σ H Hf ρ Q R ?_⟩
  show PostE G F W σ Hf _ ((f ρ).bind _)
  cases hf : f ρ with
  | ok d ρ' => rw [hf] at p; exact fun H' Hf' R' s v r => p H' Hf' R' s v r
  | exc C f' d ρ' => rw [hf] at p; exact p
  | bad => rw [hf] at p; exact p
theorem da_nil : DA G X W [] [] := ⟨_, pa_nil, fun F σ H Hf ρ Q R p => p H Hf R (Same.refl _) [] .nil⟩
theorem da_cons (h : DO G X W e o) (t : DA G X W es os) (hs : starEach (e :: es) X.env = (false, eval e X.env) :: starEach es X.env := by rfl) : DA G X W (e :: es) (o :: os) := by
  obtain ⟨t1, p1, q1⟩ := h
  obtain ⟨t2, p2, q2⟩ := t
  refine ⟨_, pa_cons p1 p2 hs, fun F σ H Hf ρ Q R p => ?_⟩
  refine q1 F σ H Hf ρ _ R ((PostE.bind p).imp fun a H1 Hf1 ρ1 _ R1 s1 p v r => ?_)
  refine q2 F σ H1 Hf1 ρ1 _ R1 ((PostE.bind p).imp fun as H2 Hf2 ρ2 _ R2 s2 p vs rs => ?_)
  exact p H2 Hf2 R2 (Same.refl _) (v :: vs) (.cons (r.mono s2) rs)
/-! ### names, constants -/
def eVar (i : Nat) : EX := fun ρ => match ρ[i]? with
  | some (.val d) => .ok d ρ
  | _ => .bad
theorem de_var {i : Nat} {x : Str} {pos : Pos} (hN : X.N[i]? = some x := by rfl) (hv : Vis X.env.scope x := by first | exact .inl rfl | exact .inr (.inl rfl) | exact .inr (.inr rfl)) (hd : (x == ("__debug__" : Str)) = false := by decide) (hcd : (x == ("__classdict__" : Str)) = false := by decide) : DE G X W (.Name x pos) (eVar i) := by
  refine DE.intro ⟨_, pe_var (i := i) hN hv hd hcd, fun F σ H Hf ρ Q R p => ?_⟩
  unfold eVar at p
  split at p
  · rename_i d hc
    obtain ⟨v, hv, r⟩ := R.cell i _ hc
    exact ⟨v, hv, p H Hf R (Same.refl _) v r⟩
  · exact p.elim
theorem do_sl {i : Nat} {x : Str} {pos : Pos} (hN : X.N[i]? = some x := by rfl) (hv : Vis X.env.scope x := by first | exact .inl rfl | exact .inr (.inl rfl) | exact .inr (.inr rfl)) (hd : (x == ("__debug__" : Str)) = false := by decide) (hcd : (x == ("__classdict__" : Str)) = false := by decide) : DO G X W (.Name x pos) (.sl i) := by
  refine ⟨_, pe_var (i := i) hN hv hd hcd, fun F σ H Hf ρ Q R p => ?_⟩
  unfold Opd.ev at p
  dsimp only at p
  split at p
  · rename_i ds hc
    obtain ⟨c, hc1, hc2⟩ := Option.bind_eq_some_iff.mp hc
    obtain ⟨a, m⟩ := (R.cell i c hc1).mut hc2
    exact ⟨.ref a, m.at_, p H Hf R (Same.refl _) (.ref a) m.at_⟩
  · exact p.elim
def eC (d : D) : EX := fun ρ => .ok d ρ
theorem de_of (t : TE) (v : V) (d : D) (p : PE X e (tC v)) (r : ∀ Hf, Rp G Hf v d) : DE G X W e (eC d) :=
  DE.intro ⟨_, p, fun F σ H Hf ρ Q R p => p H Hf R (Same.refl _) v (r Hf)⟩
end
end Spk
namespace Spk
open PySem PySem.Spec PyProof.Rows L2
/-! ### operators -/
def OpD (G : Gx) (X : Cx) (f : Value → Value → Sem Value) (op : D → D → Option D) : Prop := ∃ r, OpR X f r ∧ ∀ (F : Fr) (σ : L2.St) (H Hf : Hp) (ρ : PEnv) (v w : V) (x y d : D) (Q : VK), Rep G F σ H Hf ρ →
  Rq G H Hf v x → Rq G H Hf w y → op x y = some d → (∀ u H' Hf', Rep G F σ H' Hf' ρ → Same Hf Hf' → Rp G Hf' u d → Q u H') → r v w H Q
def CallD (G : Gx) (X : Cx) (f : Value) (op : List D → Option D) : Prop := ∃ r, CallR X f r ∧ ∀ (F : Fr) (σ : L2.St) (H Hf : Hp) (ρ : PEnv) (vs : List V) (ds : List D) (d : D) (Q : VK), Rep G F σ H Hf ρ →
  RqL G H Hf vs ds → op ds = some d → (∀ u H' Hf', Rep G F σ H' Hf' ρ → Same Hf Hf' → Rp G Hf' u d → Q u H') → r vs H Q
def op2 (op : D → D → Option D) : List D → Option D
  | [x, y] => op x y
  | _ => none
def op1 (op : D → Option D) : List D → Option D
  | [x] => op x
  | _ => none
/-- the operands evaluated from the left, then the operation -/
def eOp (op : List D → Option D) (os : List Opd) : EX := fun ρ => (evs os ρ).bind fun as ρ1 => Rs.lift ((dats ρ1 as).bind op) ρ1
section
variable {G : Gx} {X : Cx} {W : WX} {e a b : Expr} {es : List Expr} {o o1 o2 : Opd} {os : List Opd} {f : EX} {pos p : Pos}
theorem lift_post {α : Type} {F : Fr} {σ : L2.St} {H Hf : Hp} {ρ : PEnv} {Q : α → Hp → Hp → PEnv → Prop} {r : Option α} (h : PostE G F W σ Hf Q (Rs.lift r ρ)) : ∃ a, r = some a ∧ ∀ H' Hf', Rep G F σ H' Hf' ρ → Same Hf Hf' → Q a H' Hf' ρ := by
  cases r with
  | none => exact h.elim
  | some a => exact ⟨a, rfl, h⟩
theorem de_op2 {f : Value → Value → Sem Value} {op : D → D → Option D} (k : OpD G X f op) (ha : DO G X W a o1) (hb : DO G X W b o2) {ex : Expr} (mk : ∀ {r : R2} {ta tb : TE}, OpR X f r → PE X a ta → PE X b tb → PE X ex (tOp r ta tb)) : DE G X W ex (eOp (op2 op) [o1, o2]) := by
  obtain ⟨r, hr, kr⟩ := k
  obtain ⟨t1, p1, q1⟩ := ha
  obtain ⟨t2, p2, q2⟩ := hb
  refine DE.intro ⟨_, mk hr p1 p2, fun F σ H Hf ρ Q R p => ?_⟩
  refine q1 F σ H Hf ρ _ R ((PostE.bind (PostE.bind p)).imp fun a1 H1 Hf1 ρ1 _ R1 s1 p v1 r1 => ?_)
  refine q2 F σ H1 Hf1 ρ1 _ R1 ((PostE.bind (PostE.bind p)).imp fun a2 H2 Hf2 ρ2 _ R2 s2 p v2 r2 => ?_)
  have p := p H2 Hf2 R2 (Same.refl _) H2 Hf2 R2 (Same.refl _)
  obtain ⟨d, hd, q⟩ := lift_post (H := H2) p
  obtain ⟨ds, h1, h2⟩ := Option.bind_eq_some_iff.mp hd
  have as : ArgsOk G σ Hf2 [v1, v2] [a1, a2] := .cons (r1.mono s2) (.cons r2 .nil)
  cases as.rq R2 h1 with
  | cons x1 t =>
    cases t with
    | cons x2 t =>
      cases t
      exact kr F σ H2 Hf2 ρ2 v1 v2 _ _ d Q R2 x1 x2 h2 fun u H' Hf' R' s' r' => q H' Hf' R' s' u r'
theorem de_bin {op : Operator} {g : D → D → Option D} (k : OpD G X (binaryOp op) g) (ha : DO G X W a o1) (hb : DO G X W b o2) : DE G X W (.BinOp a op b pos) (eOp (op2 g) [o1, o2]) := de_op2 k ha hb fun hr p1 p2 => pe_op hr p1 p2
theorem de_calls {g : List D → Option D} {fv : Value} (k : CallD G X fv g) (ha : DA G X W es os) {ex : Expr} (mk : ∀ {r : List V → Hp → VK → Prop} {t : TA}, CallR X fv r → PA X es t → PE X ex (tCB r t)) : DE G X W ex (eOp g os) := by
  obtain ⟨r, hr, kr⟩ := k
  obtain ⟨t1, p1, q1⟩ := ha
  refine DE.intro ⟨_, mk hr p1, fun F σ H Hf ρ Q R p => ?_⟩
  refine q1 F σ H Hf ρ _ R ((PostE.bind p).imp fun as H1 Hf1 ρ1 _ R1 s1 p vs rs => ?_)
  obtain ⟨d, hd, q⟩ := lift_post (H := H1) p
  obtain ⟨ds, h1, h2⟩ := Option.bind_eq_some_iff.mp hd
  exact kr F σ H1 Hf1 ρ1 vs ds d Q R1 (rs.rq R1 h1) h2 fun u H' Hf' R' s' r' => q H' Hf' R' s' u r'
theorem de_callB {g : List D → Option D} {id : String} {x : Str} (k : CallD G X (.builtin id) g) (hg : Gl X x) (hm : X.mg x = none) (hv : bootBuiltins x = some (.builtin id)) (ha : DA G X W (e :: es) os) (hn : x ≠ "__name__" := by decide) (hdb : (x == ("__debug__" : Str)) = false := by decide)
    (he : starEach (e :: es) X.env = (false, eval e X.env) :: starEach es X.env := by rfl) (hpl : (backTo pos (starEach es X.env)).any (·.1) = false := by rfl) : DE G X W (.Call (.Name x p) (e :: es) [] pos) (eOp g os) :=
  de_calls k ha fun hr pa => pe_callB hr hg hm hv pa hn hdb he hpl
theorem de_callTy {g : List D → Option D} {T : String} {x : Str} (k : CallD G X (.type T) g) (hg : Gl X x) (hm : X.mg x = none) (hv : bootBuiltins x = some (.type T)) (ha : DA G X W (e :: es) os) (hn : x ≠ "__name__" := by decide) (hdb : (x == ("__debug__" : Str)) = false := by decide)
    (he : starEach (e :: es) X.env = (false, eval e X.env) :: starEach es X.env := by rfl) (hpl : (backTo pos (starEach es X.env)).any (·.1) = false := by rfl) : DE G X W (.Call (.Name x p) (e :: es) [] pos) (eOp g os) :=
  de_calls k ha fun hr pa => pe_callTy hr hg hm hv pa hn hdb he hpl
end
end Spk
namespace Spk
open PySem PySem.Spec PyProof.Rows L2
/-! ### data as the library compares and shows it -/
mutual
def D.py : D → PyData
  | .non => .none
  | .bl b => .bool b
  | .int i => .int i
  | .str x => .str x
  | .lst ds => .list (pys ds)
  | .tup ds => .tuple (pys ds)
  | .ins _ _ _ => .none
  | .xn _ _ _ => .none
  | .scr _ => .none
def pys : List D → List PyData
  | [] => []
  | d :: ds => d.py :: pys ds
end
mutual
/-- no instance within -/
def D.pure : D → Bool
  | .lst ds => pures ds
  | .tup ds => pures ds
  | .ins _ _ _ => false
  | .xn _ _ _ => false
  | .scr _ => false
  | _ => true
def pures : List D → Bool
  | [] => true
  | d :: ds => d.pure && pures ds
end
section
variable {G : Gx} {H : Hp}
mutual
theorem Rp.dp : ∀ (d : D) {v : V}, Rp G H v d → d.pure = true → Dp G.K H v d.py
  | .non, _, h, _ => by cases h; exact .non
  | .bl b, _, h, _ => by cases h; exact .bl b
  | .int i, _, h, _ => by cases h; exact .int i
  | .str x, _, h, _ => by cases h; exact .str x
  | .lst ds, _, h, c => by cases h with | lst q r => exact .lst (SqL.hp q) (RpL.dp ds r c)
  | .tup ds, _, h, c => by cases h with | tup q r => exact .tup q (RpL.dp ds r c)
  | .ins _ _ _, _, _, c => by cases c
  | .xn _ _ _, _, _, c => by cases c
  | .scr _, _, _, c => by cases c
theorem RpL.dp : ∀ (ds : List D) {vs : List V}, RpL G H vs ds → pures ds = true → DpAll G.K H vs (pys ds)
  | [], _, h, _ => by cases h; exact .nil
  | d :: ds, _, h, c => by
    have c := Bool.and_eq_true_iff.mp c
    cases h with | cons a b => exact .cons (Rp.dp d a c.1) (RpL.dp ds b c.2)
end
mutual
theorem Rp.can : ∀ (d : D) {v : V}, Rp G H v d → d.pure = true → d.py.canLay0 = true
  | .non, _, h, _ => by simp only [D.py, PyData.canLay0]
  | .bl b, _, h, _ => by simp only [D.py, PyData.canLay0]
  | .int i, _, h, _ => by simp only [D.py, PyData.canLay0]
  | .str x, _, h, _ => by cases h with | str h => exact h
  | .lst ds, _, h, c => by cases h with | lst q r => simp only [D.py, PyData.canLay0]; exact RpL.can ds r c
  | .tup ds, _, h, c => by cases h with | tup q r => simp only [D.py, PyData.canLay0]; exact RpL.can ds r c
  | .ins _ _ _, _, _, c => by cases c
  | .xn _ _ _, _, _, c => by cases c
  | .scr _, _, _, c => by cases c
theorem RpL.can : ∀ (ds : List D) {vs : List V}, RpL G H vs ds → pures ds = true → PyData.canLayAll0 (pys ds) = true
  | [], _, h, _ => by simp only [pys, PyData.canLayAll0]
  | d :: ds, _, h, c => by
    have c := Bool.and_eq_true_iff.mp c
    cases h with | cons a b => simp only [pys, PyData.canLayAll0, Rp.can d a c.1, RpL.can ds b c.2, Bool.and_self]
end
end
/-- data that may be compared: no instance within, not too deep -/
def D.fit (d : D) : Bool := d.pure && decide (d.py.depth ≤ 64)
theorem Rp.shp {G : Gx} {H : Hp} {v : V} {d : D} (r : Rp G H v d) (h : d.fit = true) : Dp G.K H v d.py ∧ SeqAt.shaped d.py = true := by
  have h := Bool.and_eq_true_iff.mp h
  exact ⟨Rp.dp d r h.1, Bool.and_eq_true_iff.mpr ⟨Rp.can d r h.1, h.2⟩⟩
def eqv (x y : D) : Bool := PyData.eqv x.py y.py
/-! ### operators -/
theorem opr_or {X : Cx} {f : Value → Value → Sem Value} {r1 r2 : R2} (h1 : OpR X f r1) (h2 : OpR X f r2) : OpR X f (fun x y H Q => r1 x y H Q ∨ r2 x y H Q) := by
  intro pins s σ H x y v u Q I rx ry h
  rcases h with h | h
  · exact h1 pins s σ H x y v u Q I rx ry h
  · exact h2 pins s σ H x y v u Q I rx ry h
section
variable {G : Gx} {X : Cx}
def addD : D → D → Option D
  | .int i, .int j => some (.int (i + j))
  | .lst xs, .lst ys => if xs.length + ys.length ≤ sizeLine then some (.lst (xs ++ ys)) else none
  | .tup xs, .tup ys => if xs.length + ys.length ≤ sizeLine then some (.tup (xs ++ ys)) else none
  | .str x, .str y => if x.length + y.length ≤ sizeLine ∧ PyData.canLay0 (.str (x ++ y)) = true then some (.str (x ++ y)) else none
  | _, _ => none
theorem ite_some' {α : Type} {c : Prop} [Decidable c] {x d : α} (h : (if c then some x else none) = some d) : c ∧ x = d := by
  by_cases e : c
  · rw [if_pos e] at h; exact ⟨e, Option.some.inj h⟩
  · rw [if_neg e] at h; cases h
theorem rp_i {H : Hp} {v : V} {i : Int} (h : Rp G H v (.int i)) : v = .int i := by cases h; rfl
theorem rp_b {H : Hp} {v : V} {b : Bool} (h : Rp G H v (.bl b)) : v = .bl b := by cases h; rfl
theorem rp_s {H : Hp} {v : V} {x : Str} (h : Rp G H v (.str x)) : v = .str x ∧ PyData.canLay0 (.str x) = true := by cases h with | str h => exact ⟨rfl, h⟩
theorem rp_n {H : Hp} {v : V} (h : Rp G H v .non) : v = .non := by cases h; rfl
theorem rp_t {H : Hp} {v : V} {ds : List D} (h : Rp G H v (.tup ds)) : ∃ a vs, v = .ref a ∧ SqT G.K H a vs ∧ RpL G H vs ds := by cases h with | tup q r => exact ⟨_, _, rfl, q, r⟩
theorem Rq.i {H Hf : Hp} {v : V} {i : Int} (h : Rq G H Hf v (.int i)) : v = .int i := rp_i (h.nl fun _ z => nomatch z)
theorem Rq.b {H Hf : Hp} {v : V} {b : Bool} (h : Rq G H Hf v (.bl b)) : v = .bl b := rp_b (h.nl fun _ z => nomatch z)
theorem Rq.n {H Hf : Hp} {v : V} (h : Rq G H Hf v .non) : v = .non := rp_n (h.nl fun _ z => nomatch z)
theorem Rq.s {H Hf : Hp} {v : V} {x : Str} (h : Rq G H Hf v (.str x)) : v = .str x ∧ PyData.canLay0 (.str x) = true := rp_s (h.nl fun _ z => nomatch z)
theorem Rq.t {H Hf : Hp} {v : V} {ds : List D} (h : Rq G H Hf v (.tup ds)) (s : Same Hf H) : ∃ a vs, v = .ref a ∧ SqT G.K H a vs ∧ RpL G Hf vs ds := by
  obtain ⟨a, vs, e, q, r⟩ := rp_t (h.nl fun _ z => nomatch z)
  exact ⟨a, vs, e, sameT s q, r⟩
theorem Rep.laid {F : Fr} {σ : L2.St} {H Hf : Hp} {ρ : PEnv} (R : Rep G F σ H Hf ρ) {q : Addr} (nq : H q = none) {vs : List V} {ds : List D} (r : RpL G Hf vs ds) :
    Rep G F σ (upd H q (.lst vs)) (upd Hf q (.lst vs)) ρ ∧ Same Hf (upd Hf q (.lst vs)) ∧ Rp G (upd Hf q (.lst vs)) (.ref q) (.lst ds) :=
  ⟨R.new nq _, Same.new (R.nf nq), .lst upd_same (r.mono (Same.new (R.nf nq)))⟩
theorem Rep.laidT {F : Fr} {σ : L2.St} {H Hf : Hp} {ρ : PEnv} (R : Rep G F σ H Hf ρ) {q : Addr} (nq : H q = none) {vs : List V} {ds : List D} (r : RpL G Hf vs ds) :
    Rep G F σ (upd H q (.tup vs)) (upd Hf q (.tup vs)) ρ ∧ Same Hf (upd Hf q (.tup vs)) ∧ Rp G (upd Hf q (.tup vs)) (.ref q) (.tup ds) :=
  ⟨R.new nq _, Same.new (R.nf nq), .tup (SqT.hp upd_same) (r.mono (Same.new (R.nf nq)))⟩
theorem od_add (hK : X.K = G.K := by rfl) : OpD G X (binaryOp .Add) addD := by
  refine ⟨_, opr_or op_add (opr_or op_cat (opr_or (hK ▸ op_catA) op_add_str)), fun F σ H Hf ρ v w x y d Q R rx ry e q => ?_⟩
  cases x <;> cases y <;> simp only [addD] at e <;> try cases e
  · obtain rfl := rx.i
    obtain rfl := ry.i
    exact .inl ⟨_, _, rfl, rfl, q _ H Hf R (Same.refl _) (.int _)⟩
  · obtain ⟨c, rfl⟩ := ite_some' e
    obtain ⟨rfl, _⟩ := rx.s
    obtain ⟨rfl, _⟩ := ry.s
    exact .inr (.inr (.inr ⟨_, _, rfl, rfl, c.1, q _ H Hf R (Same.refl _) (.str c.2)⟩))
  · obtain ⟨c, rfl⟩ := ite_some' e
    obtain ⟨a, vs, rfl, ha, ra⟩ := rx.lst R.sub
    obtain ⟨b, ws, rfl, hb, rb⟩ := ry.lst R.sub
    refine .inr (.inl ⟨_, _, _, _, rfl, rfl, ha, hb, by rw [ra.len, rb.len]; exact c, fun p np => ?_⟩)
    obtain ⟨R', s', r'⟩ := R.laid np (ra.app rb)
    exact q _ _ _ R' s' r'
  · obtain ⟨c, rfl⟩ := ite_some' e
    obtain ⟨a, vs, rfl, ha, ra⟩ := rx.t R.sub
    obtain ⟨b, ws, rfl, hb, rb⟩ := ry.t R.sub
    obtain ⟨a0, vs0, ea, qa, _⟩ := rp_t (rx.nl fun _ z => nomatch z)
    cases ea
    obtain ⟨b0, ws0, eb, qb, _⟩ := rp_t (ry.nl fun _ z => nomatch z)
    cases eb
    refine .inr (.inr (.inl ⟨_, _, _, _, rfl, rfl, ha, hb, by rw [ra.len, rb.len]; exact c, fun z => ?_, fun _ z => ?_, fun _ _ p np => ?_⟩))
    · subst z
      cases ra
      exact q _ H Hf R (Same.refl _) (ry.nl fun _ z => nomatch z)
    · subst z
      cases rb
      rw [List.append_nil] at q
      exact q _ H Hf R (Same.refl _) (rx.nl fun _ z => nomatch z)
    · obtain ⟨R', s', r'⟩ := R.laidT np (ra.app rb)
      exact q _ _ _ R' s' r'
def intOp (g : Int → Int → Option Int) : D → D → Option D
  | .int i, .int j => (g i j).map D.int
  | _, _ => none
theorem od_int {f : Value → Value → Sem Value} {C : Int → Int → Prop} {k : Int → Int → Int} {g : Int → Int → Option Int} (h : OpR X f (rI C fun i j => .int (k i j))) (hg : ∀ i j n, g i j = some n → C i j ∧ k i j = n) : OpD G X f (intOp g) := by
  refine ⟨_, h, fun F σ H Hf ρ v w x y d Q R rx ry e q => ?_⟩
  cases x <;> cases y <;> simp only [intOp] at e <;> try cases e
  rename_i i j
  obtain ⟨n, h1, rfl⟩ := Option.map_eq_some_iff.mp e
  obtain ⟨c, rfl⟩ := hg _ _ _ h1
  obtain rfl := rx.i
  obtain rfl := ry.i
  exact ⟨_, _, rfl, rfl, c, q _ H Hf R (Same.refl _) (.int _)⟩
theorem od_int0 {f : Value → Value → Sem Value} {k : Int → Int → Int} (h : OpR X f (rI0 fun i j => .int (k i j))) : OpD G X f (intOp fun i j => some (k i j)) := by
  refine ⟨_, h, fun F σ H Hf ρ v w x y d Q R rx ry e q => ?_⟩
  cases x <;> cases y <;> simp only [intOp, Option.map_some] at e <;> cases e
  obtain rfl := rx.i
  obtain rfl := ry.i
  exact ⟨_, _, rfl, rfl, q _ H Hf R (Same.refl _) (.int _)⟩
def subD : D → D → Option D := intOp fun i j => some (i - j)
theorem od_sub : OpD G X (binaryOp .Sub) subD := od_int0 op_sub
def mulG (i j : Int) : Option Int := if i.natAbs.log2 + j.natAbs.log2 < 1000000 then some (i * j) else none
def mulD : D → D → Option D := intOp mulG
theorem od_mul : OpD G X (binaryOp .Mult) mulD := od_int op_mulW fun i j n h => by unfold mulG at h; obtain ⟨c, e⟩ := ite_some' h; exact ⟨c, e⟩
def divG (i j : Int) : Option Int := if 0 < j ∧ j.natAbs.log2 < 9000 then some (i / j) else none
def divD : D → D → Option D := intOp divG
theorem od_div : OpD G X (binaryOp .FloorDiv) divD := od_int op_fdivW fun i j n h => by unfold divG at h; obtain ⟨c, e⟩ := ite_some' h; exact ⟨c, e⟩
def modG (i j : Int) : Option Int := if 0 < j then some (i % j) else none
def modD : D → D → Option D := intOp modG
theorem od_mod : OpD G X (binaryOp .Mod) modD := od_int op_mod fun i j n h => by unfold modG at h; obtain ⟨c, e⟩ := ite_some' h; exact ⟨c, e⟩
def powG (i j : Int) : Option Int := if 0 ≤ j ∧ j ≤ 1000000 ∧ i.natAbs < 2 ^ 64 then some (i ^ j.toNat) else none
def powD : D → D → Option D := intOp powG
theorem od_pow : OpD G X (binaryOp .Pow) powD := od_int op_pow fun i j n h => by unfold powG at h; obtain ⟨c, e⟩ := ite_some' h; exact ⟨c, e⟩
def intCmp (g : Int → Int → Bool) : D → D → Option D
  | .int i, .int j => some (.bl (g i j))
  | _, _ => none
theorem od_icmp {f : Value → Value → Sem Value} {k : Int → Int → Bool} (h : OpR X f (rI0 fun i j => .bl (k i j))) : OpD G X f (intCmp k) := by
  refine ⟨_, h, fun F σ H Hf ρ v w x y d Q R rx ry e q => ?_⟩
  cases x <;> cases y <;> simp only [intCmp] at e <;> cases e
  obtain rfl := rx.i
  obtain rfl := ry.i
  exact ⟨_, _, rfl, rfl, q _ H Hf R (Same.refl _) (.bl _)⟩
def ltD : D → D → Option D := intCmp fun i j => decide (i < j)
def leD : D → D → Option D := intCmp fun i j => decide (i ≤ j)
def gtD : D → D → Option D := intCmp fun i j => decide (j < i)
def geD : D → D → Option D := intCmp fun i j => decide (j ≤ i)
theorem od_lt : OpD G X (compareOp .Lt) ltD := od_icmp op_lt
theorem od_gt : OpD G X (compareOp .Gt) gtD := od_icmp op_gt
theorem od_ge : OpD G X (compareOp .GtE) geD := od_icmp op_ge
def eqD (x y : D) : Option D := if x.fit = true ∧ y.fit = true then some (.bl (eqv x y)) else none
def neD (x y : D) : Option D := if x.fit = true ∧ y.fit = true then some (.bl (!eqv x y)) else none
theorem od_eq (hu : X.A.units + 64 < cLine) (hK : X.K = G.K := by rfl) : OpD G X (compareOp .Eq) eqD := by
  refine ⟨_, (hK ▸ op_eqD hu : OpR X (compareOp .Eq) (rEqD G.K)), fun F σ H Hf ρ v w x y d Q R rx ry e q => ?_⟩
  obtain ⟨⟨c1, c2⟩, rfl⟩ := ite_some' e
  obtain ⟨a1, a2⟩ := (rx.rp R.sub).shp c1
  obtain ⟨b1, b2⟩ := (ry.rp R.sub).shp c2
  exact ⟨_, _, a1, b1, a2, b2, q _ H Hf R (Same.refl _) (.bl _)⟩
theorem od_ne (hu : X.A.units + 64 < cLine) (hK : X.K = G.K := by rfl) : OpD G X (compareOp .NotEq) neD := by
  refine ⟨_, (hK ▸ op_neD hu : OpR X (compareOp .NotEq) (rNeD G.K)), fun F σ H Hf ρ v w x y d Q R rx ry e q => ?_⟩
  obtain ⟨⟨c1, c2⟩, rfl⟩ := ite_some' e
  obtain ⟨a1, a2⟩ := (rx.rp R.sub).shp c1
  obtain ⟨b1, b2⟩ := (ry.rp R.sub).shp c2
  exact ⟨_, _, a1, b1, a2, b2, q _ H Hf R (Same.refl _) (.bl _)⟩
/-- x is None -/
def isNonD (n : Bool) (x y : D) : Option D := match x, y with
  | .non, .non => some (.bl (!n))
  | _, .non => some (.bl n)
  | _, _ => none
def negD : D → Option D
  | .int i => some (.int (-i))
  | _ => none
/-! ### truth -/
def truth : D → Option Bool
  | .non => some false
  | .bl b => some b
  | .int i => some (i != 0)
  | .str x => if x.length ≤ sizeLine then some ((x.length : Int) != 0) else none
  | .lst ds => some (!ds.isEmpty)
  | .tup ds => some (!ds.isEmpty)
  | _ => none
theorem empty_rp {H : Hp} {vs : List V} {ds : List D} (r : RpL G H vs ds) : (!vs.isEmpty) = !ds.isEmpty := by cases r <;> rfl
theorem tru_of (hK : X.K = G.K) {H Hf : Hp} {v : V} {d : D} {b : Bool} (s : Same Hf H) (r : Rq G H Hf v d) (e : truth d = some b) : TruV X.K v H b := by
  rw [hK]
  cases d <;> simp only [truth] at e <;> try cases e
  · obtain rfl := r.n; rfl
  · obtain rfl := r.b; rfl
  · obtain rfl := r.i; rfl
  · obtain ⟨c, rfl⟩ := ite_some' e
    obtain ⟨rfl, _⟩ := r.s
    exact ⟨c, rfl⟩
  · obtain ⟨p, vs, rfl, hp, rl⟩ := r.lst s
    exact .inl ⟨vs, SqL.hp hp, (empty_rp rl).symm⟩
  · obtain ⟨p, vs, rfl, hp, rl⟩ := r.t s
    exact .inr (.inl ⟨vs, hp, (empty_rp rl).symm⟩)
abbrev BX := PEnv → Rs Bool
def DT (G : Gx) (X : Cx) (W : WX) (e : Expr) (f : BX) : Prop := ∃ t, PT X e t ∧ ∀ (F : Fr) (σ : L2.St) (H Hf : Hp) (ρ : PEnv) (Q : Bool → Hp → Prop), Rep G F σ H Hf ρ →
  PostE G F W σ Hf (fun b H' _ _ => Q b H') (f ρ) → t σ H Q
def DW (G : Gx) (X : Cx) (W : WX) (e : Expr) (f : BX) : Prop := ∃ t, PW X e t ∧ ∀ (F : Fr) (σ : L2.St) (H Hf : Hp) (ρ : PEnv) (Q : Bool → Hp → Prop), Rep G F σ H Hf ρ →
  PostE G F W σ Hf (fun b H' _ _ => Q b H') (f ρ) → t σ H Q
theorem DW.pt {W : WX} {e : Expr} {f : BX} (h : DW G X W e f) : DT G X W e f := by
  obtain ⟨t, p, q⟩ := h
  exact ⟨t, p.pt, q⟩
def bTru (o : Opd) : BX := fun ρ => (o.ev ρ).bind fun a ρ1 => Rs.lift ((a.dat ρ1).bind truth) ρ1
section
variable {W : WX} {e a b c : Expr} {o : Opd} {f fa fb fc : EX} {g ga gb : BX} {pos : Pos} {rest : List Expr}
theorem dt_tru (ha : DO G X W a o) (hK : X.K = G.K := by rfl) (he : ∀ whole, isTrue a X.env whole = (do let v ← whole; standAt a.pos; holding [v] (truthy v)) := by intro _; rfl) : DT G X W a (bTru o) := by
  obtain ⟨t, p1, q1⟩ := ha
  refine ⟨_, pt_truth p1 he, fun F σ H Hf ρ Q R p => ?_⟩
  refine q1 F σ H Hf ρ _ R ((PostE.bind p).imp fun a1 H1 Hf1 ρ1 _ R1 s1 p v r => ?_)
  obtain ⟨b, hb, q⟩ := lift_post (H := H1) p
  obtain ⟨d, h1, h2⟩ := Option.bind_eq_some_iff.mp hb
  exact ⟨b, tru_of hK R1.sub (ArgOk.rq R1 r h1) h2, q H1 Hf1 R1 (Same.refl _)⟩
def bBl (f : EX) : BX := fun ρ => (f ρ).bind fun d ρ1 => match d with
  | .bl b => .ok b ρ1
  | _ => .bad
/-- what a comparison is, as a test -/
theorem dt_of {mk : TE → TT} (hm : ∀ {t : TE} {σ : L2.St} {H : Hp} {Q : Bool → Hp → Prop}, t σ H (fun x H' => ∃ k, x = .bl k ∧ Q k H') → mk t σ H Q) (h : ∃ t, PT X a (mk t) ∧ ∀ (F : Fr) (σ : L2.St) (H Hf : Hp) (ρ : PEnv) (Q : VK), Rep G F σ H Hf ρ →
    PostE G F W σ Hf (fun d H' Hf' _ => ∀ v, Rp G Hf' v d → Q v H') (f ρ) → t σ H Q) : DT G X W a (bBl f) := by
  obtain ⟨t, p1, q1⟩ := h
  refine ⟨_, p1, fun F σ H Hf ρ Q R p => hm (q1 F σ H Hf ρ _ R ((PostE.bind p).imp fun d H1 Hf1 ρ1 _ R1 s1 p v r => ?_))⟩
  cases d with
  | bl k =>
    obtain rfl := rp_b r
    exact ⟨k, rfl, p H1 Hf1 R1 (Same.refl _)⟩
  | _ => exact p.elim
theorem dt_cmp {op : CmpOp} {g : D → D → Option D} {o1 o2 : Opd} (k : OpD G X (compareOp op) g) (ha : DO G X W a o1) (hb : DO G X W b o2) (hm : behindInMarks op b = false) : DT G X W (.Compare a [op] [b] pos) (bBl (eOp (op2 g) [o1, o2])) := by
  obtain ⟨r, hr, kr⟩ := k
  obtain ⟨t1, p1, q1⟩ := ha
  obtain ⟨t2, p2, q2⟩ := hb
  refine dt_of (mk := tTest) (fun h => h) ⟨tOp r t1 t2, pt_cmpR hr p1 p2 hm, fun F σ H Hf ρ Q R p => ?_⟩
  refine q1 F σ H Hf ρ _ R ((PostE.bind (PostE.bind p)).imp fun a1 H1 Hf1 ρ1 _ R1 s1 p v1 r1 => ?_)
  refine q2 F σ H1 Hf1 ρ1 _ R1 ((PostE.bind (PostE.bind p)).imp fun a2 H2 Hf2 ρ2 _ R2 s2 p v2 r2 => ?_)
  have p := p H2 Hf2 R2 (Same.refl _) H2 Hf2 R2 (Same.refl _)
  obtain ⟨d, hd, q⟩ := lift_post (H := H2) p
  obtain ⟨ds, h1, h2⟩ := Option.bind_eq_some_iff.mp hd
  have as : ArgsOk G σ Hf2 [v1, v2] [a1, a2] := .cons (r1.mono s2) (.cons r2 .nil)
  cases as.rq R2 h1 with
  | cons x1 t =>
    cases t with
    | cons x2 t =>
      cases t
      exact kr F σ H2 Hf2 ρ2 v1 v2 _ _ d Q R2 x1 x2 h2 fun u H' Hf' R' s' r' => q H' Hf' R' s' u r'
/-- a < b < c -/
def eChain (g g' : D → D → Option D) (fa fb fc : EX) : EX := fun ρ => (fa ρ).bind fun x ρ1 => (fb ρ1).bind fun y ρ2 => (Rs.lift (g x y) ρ2).bind fun z ρ3 => match z with
  | .bl true => (fc ρ3).bind fun w ρ4 => Rs.lift (g' y w) ρ4
  | .bl false => .ok (.bl false) ρ3
  | _ => .bad
/-! and, or, not -/
def bAnd (ga gb : BX) : BX := fun ρ => (ga ρ).bind fun b ρ1 => if b = true then gb ρ1 else .ok false ρ1
def bOr (ga gb : BX) : BX := fun ρ => (ga ρ).bind fun b ρ1 => if b = true then .ok true ρ1 else gb ρ1
def bNot (ga : BX) : BX := fun ρ => (ga ρ).bind fun b ρ1 => .ok (!b) ρ1
theorem dw_or1 (ha : DT G X W a ga) : DW G X W (.BoolOp .Or [a] pos) ga := by
  obtain ⟨t, p, q⟩ := ha
  exact ⟨t, pw_or1 p, q⟩
theorem dw_or (ha : DT G X W a ga) (hb : DW G X W (.BoolOp .Or (b :: rest) pos) gb) : DW G X W (.BoolOp .Or (a :: b :: rest) pos) (bOr ga gb) := by
  obtain ⟨t1, p1, q1⟩ := ha
  obtain ⟨t2, p2, q2⟩ := hb
  refine ⟨_, pw_or p1 p2, fun F σ H Hf ρ Q R p => ?_⟩
  refine q1 F σ H Hf ρ _ R ((PostE.bind p).imp fun k H1 Hf1 ρ1 _ R1 s1 p => ?_)
  by_cases hk : k = true
  · rw [if_pos hk] at p ⊢
    exact p H1 Hf1 R1 (Same.refl _)
  · rw [if_neg hk] at p ⊢
    exact q2 F σ H1 Hf1 ρ1 _ R1 p
/-- .. as values -/
def eAnd (fa fb : EX) : EX := fun ρ => (fa ρ).bind fun x ρ1 => match truth x with
  | some true => fb ρ1
  | some false => .ok x ρ1
  | none => .bad
def eOr (fa fb : EX) : EX := fun ρ => (fa ρ).bind fun x ρ1 => match truth x with
  | some true => .ok x ρ1
  | some false => fb ρ1
  | none => .bad
def eNot (o : Opd) : EX := fun ρ => (o.ev ρ).bind fun a ρ1 => Rs.lift (((a.dat ρ1).bind truth).map fun b => D.bl (!b)) ρ1
def eIf (g : BX) (fa fb : EX) : EX := fun ρ => (g ρ).bind fun k ρ1 => if k = true then fa ρ1 else fb ρ1
theorem de_ifExp (hc : DT G X W c g) (ha : DE G X W a fa) (hb : DE G X W b fb) : DE G X W (.IfExp c a b pos) (eIf g fa fb) := by
  obtain ⟨t, p0, q0⟩ := hc
  obtain ⟨t1, p1, q1⟩ := DE.elim ha
  obtain ⟨t2, p2, q2⟩ := DE.elim hb
  refine DE.intro ⟨_, pe_ifExp p0 p1 p2, fun F σ H Hf ρ Q R p => ?_⟩
  refine q0 F σ H Hf ρ _ R ((PostE.bind p).imp fun k H1 Hf1 ρ1 _ R1 s1 p => ?_)
  by_cases hk : k = true
  · rw [if_pos hk] at p ⊢
    exact q1 F σ H1 Hf1 ρ1 _ R1 p
  · rw [if_neg hk] at p ⊢
    exact q2 F σ H1 Hf1 ρ1 _ R1 p
end
end
end Spk
namespace Spk
open PySem PySem.Spec PyProof.Rows L2
section
variable {G : Gx} {X : Cx} {W : WX} {e a b : Expr} {es : List Expr} {o : Opd} {os : List Opd} {pos : Pos}
/-! ### displays -/
def vals? : List Arg → Option (List D)
  | [] => some []
  | .val d :: as => (vals? as).map (d :: ·)
  | .sl _ :: _ => none
theorem ArgsOk.vals {σ : L2.St} {Hf : Hp} : ∀ {vs : List V} {as : List Arg} {ds : List D}, ArgsOk G σ Hf vs as → vals? as = some ds → RpL G Hf vs ds
  | _, _, _, .nil, e => by cases e; exact .nil
  | _, _, _, .cons (a := .val d) h t, e => by
    obtain ⟨ds, h1, rfl⟩ := Option.map_eq_some_iff.mp (show (vals? _).map _ = _ from e)
    exact .cons h (ArgsOk.vals t h1)
  | _, _, _, .cons (a := .sl i) h t, e => by cases e
def eTup (os : List Opd) : EX := fun ρ => (evs os ρ).bind fun as ρ1 => Rs.lift ((vals? as).bind fun ds => if ds.length ≤ sizeLine then some (.tup ds) else none) ρ1
theorem de_tup {x1 : Nat} (ha : DA G X W es os) : DE G X W (.Tuple es x1 pos) (eTup os) := by
  obtain ⟨t1, p1, q1⟩ := ha
  refine DE.intro ⟨_, pe_tup p1, fun F σ H Hf ρ Q R p => ?_⟩
  refine q1 F σ H Hf ρ _ R ((PostE.bind p).imp fun as H1 Hf1 ρ1 _ R1 s1 p vs rs => ?_)
  obtain ⟨d, hd, q⟩ := lift_post (H := H1) p
  obtain ⟨ds, h1, h2⟩ := Option.bind_eq_some_iff.mp hd
  obtain ⟨c, rfl⟩ := ite_some' h2
  have rl := rs.vals h1
  refine ⟨by rw [rl.len]; exact c, fun p np => ?_⟩
  obtain ⟨R', s', r'⟩ := R1.laidT np rl
  exact q _ _ R' s' _ r'
/-! ### a new list that nothing else knows -/
def DF (G : Gx) (X : Cx) (W : WX) (e : Expr) (f : PEnv → Rs (List D)) : Prop := ∃ t, PE X e t ∧ ∀ (F : Fr) (σ : L2.St) (H Hf : Hp) (ρ : PEnv) (Q : VK), Rep G F σ H Hf ρ →
  PostE G F W σ Hf (fun ds H' Hf' ρ' => ∀ (p : Addr) (vs : List V), H' p = none → RpL G Hf' vs ds → Q (.ref p) (upd H' p (.lst vs))) (f ρ) → t σ H Q
def eFr (f : PEnv → Rs (List D)) : EX := fun ρ => (f ρ).bind fun ds ρ1 => .ok (.lst ds) ρ1
theorem DF.de {f : PEnv → Rs (List D)} (h : DF G X W e f) : DE G X W e (eFr f) := by
  obtain ⟨t, p1, q1⟩ := h
  refine DE.intro ⟨t, p1, fun F σ H Hf ρ Q R p => q1 F σ H Hf ρ Q R ((PostE.bind p).imp fun ds H1 Hf1 ρ1 _ R1 s1 p q vs nq rl => ?_)⟩
  obtain ⟨R', s', r'⟩ := R1.laid nq rl
  exact p _ _ R' s' _ r'
def fLst (os : List Opd) : PEnv → Rs (List D) := fun ρ => (evs os ρ).bind fun as ρ1 => Rs.lift ((vals? as).bind fun ds => if ds.length ≤ sizeLine then some ds else none) ρ1
theorem df_lst (ha : DA G X W es os) : DF G X W (.List es pos) (fLst os) := by
  obtain ⟨t1, p1, q1⟩ := ha
  refine ⟨_, pe_lst p1, fun F σ H Hf ρ Q R p => ?_⟩
  refine q1 F σ H Hf ρ _ R ((PostE.bind p).imp fun as H1 Hf1 ρ1 _ R1 s1 p vs rs => ?_)
  obtain ⟨d, hd, q⟩ := lift_post (H := H1) p
  obtain ⟨ds, h1, h2⟩ := Option.bind_eq_some_iff.mp hd
  obtain ⟨c, rfl⟩ := ite_some' h2
  have rl := rs.vals h1
  exact ⟨by rw [rl.len]; exact c, fun p np => q _ _ R1 (Same.refl _) _ _ np rl⟩
/-! ### subscripts -/
def ixD : D → D → Option D
  | .lst ds, .int i => atI ds i
  | .tup ds, .int i => atI ds i
  | .scr ns, .int i => (atI ns i).map D.int
  | .str x, .int i => if x.length ≤ sizeLine then (atI x.cps.toList i).bind fun c => if PyData.canLay0 (.str ⟨#[c]⟩) = true then some (.str ⟨#[c]⟩) else none else none
  | _, _ => none
theorem atI_rp {H : Hp} {vs : List V} {ds : List D} {i : Int} {d : D} (r : RpL G H vs ds) (e : atI ds i = some d) : ∃ v, atI vs i = some v ∧ Rp G H v d := by
  unfold atI at e ⊢
  rw [r.len]
  cases h : ixN ds.length i with
  | none => rw [h] at e; cases e
  | some j =>
    rw [h] at e
    obtain ⟨v, h1, h2⟩ := r.getD (show ds[j]? = some d from e)
    exact ⟨v, h1, h2⟩
theorem atI_map {α β : Type} {f : α → β} {xs : List α} {i : Int} {x : α} (e : atI xs i = some x) : atI (xs.map f) i = some (f x) := by
  unfold atI at e ⊢
  rw [List.length_map]
  cases h : ixN xs.length i with
  | none => rw [h] at e; cases e
  | some j =>
    rw [h] at e
    show (xs.map f)[j]? = _
    rw [List.getElem?_map, show xs[j]? = some x from e]; rfl
theorem ix_all (hK : X.K = G.K) : IxR X (rIx G.K) := hK ▸ (IxR.or ix_list (IxR.or ix_tup ix_str))
theorem de_ix {o1 o2 : Opd} (ha : DO G X W a o1) (hb : DO G X W b o2) (hK : X.K = G.K := by rfl) (hs : PlainIx b := by exact fun _ _ => rfl) : DE G X W (.Subscript a b pos) (eOp (op2 ixD) [o1, o2]) := by
  obtain ⟨t1, p1, q1⟩ := ha
  obtain ⟨t2, p2, q2⟩ := hb
  refine DE.intro ⟨_, pe_ix (ix_all hK) p1 p2 hs, fun F σ H Hf ρ Q R p => ?_⟩
  refine q1 F σ H Hf ρ _ R ((PostE.bind (PostE.bind p)).imp fun a1 H1 Hf1 ρ1 _ R1 s1 p v1 r1 => ?_)
  refine q2 F σ H1 Hf1 ρ1 _ R1 ((PostE.bind (PostE.bind p)).imp fun a2 H2 Hf2 ρ2 _ R2 s2 p v2 r2 => ?_)
  have p := p H2 Hf2 R2 (Same.refl _) H2 Hf2 R2 (Same.refl _)
  obtain ⟨d, hd, q⟩ := lift_post (H := H2) p
  obtain ⟨ds, h1, h2⟩ := Option.bind_eq_some_iff.mp hd
  have as : ArgsOk G σ Hf2 [v1, v2] [a1, a2] := .cons (r1.mono s2) (.cons r2 .nil)
  cases as.rq R2 h1 with
  | cons x1 t =>
    cases t with
    | @cons _ _ y _ x2 t =>
      cases t
      rename_i x
      change ixD x y = some d at h2
      unfold ixD at h2
      split at h2
      · obtain rfl := x2.i
        obtain ⟨p, vs, rfl, hp, rl⟩ := x1.lst R2.sub
        obtain ⟨v, e, r⟩ := atI_rp rl h2
        exact .inl ⟨p, vs, _, v, rfl, rfl, SqL.hp hp, e, q H2 Hf2 R2 (Same.refl _) v r⟩
      · obtain rfl := x2.i
        obtain ⟨p, vs, rfl, hp, rl⟩ := x1.t R2.sub
        obtain ⟨v, e, r⟩ := atI_rp rl h2
        exact .inr (.inl ⟨p, vs, _, v, rfl, rfl, hp, e, q H2 Hf2 R2 (Same.refl _) v r⟩)
      · obtain rfl := x2.i
        obtain ⟨n, h3, rfl⟩ := Option.map_eq_some_iff.mp h2
        cases x1.nl (fun _ z => nomatch z) with
        | scr hp => exact .inl ⟨_, _, _, _, rfl, rfl, R2.sub.seq hp, atI_map h3, q H2 Hf2 R2 (Same.refl _) _ (.int _)⟩
      · obtain rfl := x2.i
        obtain ⟨rfl, _⟩ := x1.s
        rename_i z i _
        by_cases c : z.length ≤ sizeLine
        · rw [if_pos c] at h2
          obtain ⟨k, h3, h4⟩ := Option.bind_eq_some_iff.mp h2
          obtain ⟨c2, rfl⟩ := ite_some' h4
          exact .inr (.inr ⟨_, _, _, rfl, rfl, c, h3, q H2 Hf2 R2 (Same.refl _) _ (.str c2)⟩)
        · rw [if_neg c] at h2; cases h2
      · cases h2
/-- a slice's bound -/
def Bd := Option EX
def Bd.ev : Option EX → PEnv → Rs (Option Int)
  | none, ρ => .ok none ρ
  | some f, ρ => (f ρ).bind fun d ρ1 => match d with
    | .int i => .ok (some i) ρ1
    | _ => .bad
theorem RpL.ints {H : Hp} : ∀ (ns : List Int), RpL G H (ns.map V.int) (ns.map D.int)
  | [] => .nil
  | n :: ns => .cons (.int n) (RpL.ints ns)
/-! ### built-ins -/
theorem RqL.one {H Hf : Hp} {vs : List V} {x : D} (h : RqL G H Hf vs [x]) : ∃ v, vs = [v] ∧ Rq G H Hf v x := by
  cases h with | cons a t => cases t; exact ⟨_, rfl, a⟩
theorem RqL.two {H Hf : Hp} {vs : List V} {x y : D} (h : RqL G H Hf vs [x, y]) : ∃ v w, vs = [v, w] ∧ Rq G H Hf v x ∧ Rq G H Hf w y := by
  cases h with | cons a t => cases t with | cons b t => cases t; exact ⟨_, _, rfl, a, b⟩
theorem op1_of {op : D → Option D} {ds : List D} {d : D} (e : op1 op ds = some d) : ∃ x, ds = [x] ∧ op x = some d := by
  match ds, e with
  | [x], e => exact ⟨x, rfl, e⟩
theorem op2_of {op : D → D → Option D} {ds : List D} {d : D} (e : op2 op ds = some d) : ∃ x y, ds = [x, y] ∧ op x y = some d := by
  match ds, e with
  | [x, y], e => exact ⟨x, y, rfl, e⟩
def lenD : D → Option D
  | .lst ds => some (.int ds.length)
  | .tup ds => some (.int ds.length)
  | .scr ns => some (.int ns.length)
  | .str x => if x.length ≤ sizeLine then some (.int x.length) else none
  | _ => none
theorem cd_len (hK : X.K = G.K := by rfl) : CallD G X (.builtin "len") (op1 lenD) := by
  refine ⟨_, hK ▸ call_len, fun F σ H Hf ρ vs ds d Q R rs e0 q => ?_⟩
  obtain ⟨x, rfl, ee⟩ := op1_of e0
  obtain ⟨v, rfl, r⟩ := rs.one
  cases x <;> simp only [lenD] at ee <;> try cases ee
  · obtain ⟨c, rfl⟩ := ite_some' ee
    obtain ⟨rfl, _⟩ := r.s
    exact ⟨_, _, rfl, ⟨c, rfl⟩, q _ H Hf R (Same.refl _) (.int _)⟩
  · obtain ⟨p, ws, rfl, hp, rl⟩ := r.lst R.sub
    rw [← rl.len] at q
    exact ⟨_, _, rfl, .inl ⟨ws, SqL.hp hp, rfl⟩, q _ H Hf R (Same.refl _) (.int _)⟩
  · obtain ⟨p, ws, rfl, hp, rl⟩ := r.t R.sub
    rw [← rl.len] at q
    exact ⟨_, _, rfl, .inr ⟨ws, hp, rfl⟩, q _ H Hf R (Same.refl _) (.int _)⟩
  · rename_i ns
    cases r.nl (fun _ z => nomatch z) with
    | scr hp => exact ⟨_, _, rfl, .inl ⟨_, R.sub.seq hp, rfl⟩, q _ H Hf R (Same.refl _) (by rw [List.length_map]; exact .int _)⟩
def absD : D → Option D
  | .int i => some (.int (if i < 0 then -i else i))
  | _ => none
theorem cd_abs : CallD G X (.builtin "abs") (op1 absD) := by
  refine ⟨_, call_abs, fun F σ H Hf ρ vs ds d Q R rs e0 q => ?_⟩
  obtain ⟨x, rfl, ee⟩ := op1_of e0
  obtain ⟨v, rfl, r⟩ := rs.one
  cases x <;> simp only [absD] at ee <;> cases ee
  obtain rfl := r.i
  exact ⟨_, rfl, q _ H Hf R (Same.refl _) (.int _)⟩
def maxD : D → D → Option D := intOp fun i j => some (if j > i then j else i)
def minD : D → D → Option D := intOp fun i j => some (if j < i then j else i)
theorem cd_ii {f : Value} {g : Int → Int → Int} (h : CallR X f (fun xs H Q => ∃ i j, xs = [.int i, .int j] ∧ Q (.int (g i j)) H)) : CallD G X f (op2 (intOp fun i j => some (g i j))) := by
  refine ⟨_, h, fun F σ H Hf ρ vs ds d Q R rs e0 q => ?_⟩
  obtain ⟨x, y, rfl, ee⟩ := op2_of e0
  obtain ⟨v, w, rfl, r1, r2⟩ := rs.two
  cases x <;> cases y <;> simp only [intOp, Option.map_some] at ee <;> cases ee
  obtain rfl := r1.i
  obtain rfl := r2.i
  exact ⟨_, _, rfl, q _ H Hf R (Same.refl _) (.int _)⟩
theorem cd_max2 (hc : X.calm = true := by rfl) : CallD G X (.builtin "max") (op2 maxD) := cd_ii (call_max2 hc)
theorem cd_min2 (hc : X.calm = true := by rfl) : CallD G X (.builtin "min") (op2 minD) := cd_ii (call_min2 hc)
def intD : D → Option D
  | .int i => some (.int i)
  | .bl b => some (.int (if b then 1 else 0))
  | _ => none
theorem cd_int : CallD G X (.type "int") (op1 intD) := by
  refine ⟨_, call_int1, fun F σ H Hf ρ vs ds d Q R rs e0 q => ?_⟩
  obtain ⟨x, rfl, ee⟩ := op1_of e0
  obtain ⟨v, rfl, r⟩ := rs.one
  cases x <;> simp [intD] at ee <;> cases ee
  · obtain rfl := r.b
    exact .inr ⟨_, rfl, q _ H Hf R (Same.refl _) (.int _)⟩
  · obtain rfl := r.i
    exact .inl ⟨_, rfl, q _ H Hf R (Same.refl _) (.int _)⟩
def tupD : D → Option D
  | .lst ds => some (.tup ds)
  | .tup ds => some (.tup ds)
  | .scr ns => some (.tup (ns.map D.int))
  | _ => none
theorem cd_tup (hK : X.K = G.K := by rfl) : CallD G X (.type "tuple") (op1 tupD) := by
  refine ⟨_, hK ▸ call_tuple_of, fun F σ H Hf ρ vs ds d Q R rs e0 q => ?_⟩
  obtain ⟨x, rfl, ee⟩ := op1_of e0
  obtain ⟨v, rfl, r⟩ := rs.one
  cases x <;> simp only [tupD] at ee <;> cases ee
  · obtain ⟨p, ws, rfl, hp, rl⟩ := r.lst R.sub
    refine ⟨_, _, rfl, .inl ⟨SqL.hp hp, fun l nl => ?_⟩⟩
    obtain ⟨R', s', r'⟩ := R.laidT nl rl
    exact q _ _ _ R' s' r'
  · obtain ⟨p, ws, rfl, hp, rl⟩ := r.t R.sub
    exact ⟨_, _, rfl, .inr ⟨hp, q _ H Hf R (Same.refl _) (r.nl fun _ z => nomatch z)⟩⟩
  · cases r.nl (fun _ z => nomatch z) with
    | scr hp =>
      refine ⟨_, _, rfl, .inl ⟨R.sub.seq hp, fun l nl => ?_⟩⟩
      obtain ⟨R', s', r'⟩ := R.laidT nl (RpL.ints _)
      exact q _ _ _ R' s' r'
/-- repr, str -/
def reprD (d : D) : Option D := if d.pure = true ∧ d.py.showable = true ∧ d.py.hasDict = false ∧ d.py.depth ≤ 64 ∧ d.py.shown.length ≤ sizeLine ∧ PyData.canLay0 (.str d.py.shown) = true then some (.str d.py.shown) else none
theorem cd_repr {k : Nat} (gd : X.A.guards = some []) (rm : Room k X.A) (hK : X.K = G.K := by rfl) : CallD G X (.builtin "repr") (op1 reprD) := by
  refine ⟨_, hK ▸ call_reprD gd rm, fun F σ H Hf ρ vs ds d Q R rs e0 q => ?_⟩
  obtain ⟨x, rfl, ee⟩ := op1_of e0
  obtain ⟨v, rfl, r⟩ := rs.one
  obtain ⟨⟨c1, c2, c3, c4, c5, c6⟩, rfl⟩ := ite_some' ee
  exact ⟨_, _, rfl, Rp.dp x (r.rp R.sub) c1, c2, c3, c4, c5, q _ H Hf R (Same.refl _) (.str c6)⟩
end
end Spk
namespace Spk
open PySem PySem.Spec PyProof.Rows L2
/-! ### targets -/
abbrev TGf := D → PEnv → Option PEnv
/-- a target: idx, the slots that it stores to -/
def DG (G : Gx) (X : Cx) (e : Expr) (idx : List Nat) (g : TGf) : Prop := ∃ t, PG X e t ∧ ∀ (F : Fr) (σ : L2.St) (H Hf : Hp) (ρ ρ' : PEnv) (v : V) (d : D) (Q : L2.St → Hp → Prop), Rep G F σ H Hf ρ → Rp G Hf v d → g d ρ = some ρ' →
  (∀ σ', Rep G F σ' H Hf ρ' → (∀ vs, (∀ i ∈ idx, i ∈ vs) → wipe σ' vs = wipe σ vs) → Q σ' H) → t v σ H Q
theorem wipe_set {i : Nat} {x : Option V} : ∀ {vs : List Nat} {σ : L2.St}, i ∈ vs → wipe (σ.set i x) vs = wipe σ vs
  | v :: vs, σ, h => by
    unfold wipe
    by_cases e : i ∈ vs
    · rw [wipe_set e]
    · have e2 : i = v := (List.mem_cons.mp h).resolve_right e
      subst e2
      have go : ∀ ws : List Nat, i ∉ ws → wipe (σ.set i x) ws = (wipe σ ws).set i x := by
        intro ws
        induction ws with
        | nil => intro _; rfl
        | cons w ws ih =>
          intro hn
          unfold wipe
          have n1 : i ≠ w := fun z => hn (z ▸ List.mem_cons_self)
          rw [ih fun z => hn (List.mem_cons_of_mem _ z), List.set_comm _ _ n1]
      rw [go vs e, List.set_set]
def notBor (ρ : PEnv) (i : Nat) : Bool := match ρ[i]? with
  | some (.bor _) => false
  | _ => true
def gSet (i : Nat) : TGf := fun d ρ => if notBor ρ i = true then some (ρ.set i (.val d)) else none
section
variable {G : Gx} {X : Cx} {W : WX} {e : Expr} {es : List Expr} {pos : Pos}
theorem dg_name {i : Nat} {x : Str} (hN : X.N.Nodup) (hi : X.N[i]? = some x := by rfl) (hx : Loc X.env.scope x := by first | exact .inl rfl | exact .inr rfl) (hf : X.fn x = true ∨ X.env.scope.names.lookup x = some .local := by first | exact .inl rfl | exact .inr rfl | assumption) : DG G X (.Name x pos) [i] (gSet i) := by
  refine ⟨_, pg_name (i := i) hN hi hx hf, fun F σ H Hf ρ ρ' v d Q R r eg q => ?_⟩
  obtain ⟨_, rfl⟩ := ite_some' eg
  exact q _ (R.set i r) fun vs h => wipe_set (h i (List.mem_singleton_self i))
def gsNil : List D → PEnv → Option PEnv := fun ds ρ => match ds with
  | [] => some ρ
  | _ => none
def gsCons (g : TGf) (gs : List D → PEnv → Option PEnv) : List D → PEnv → Option PEnv := fun ds ρ => match ds with
  | d :: r => (g d ρ).bind (gs r)
  | _ => none
def gTupD (n : Nat) (gs : List D → PEnv → Option PEnv) : TGf := fun d ρ => match d with
  | .tup ds => if ds.length = n then gs ds ρ else none
  | _ => none
end
/-! ### statements -/
inductive Sr where
  | nx (ρ : PEnv) | rt (d : D) (ρ : PEnv) | rf (ds : List D) (ρ : PEnv) | bk (ρ : PEnv) | ct (ρ : PEnv) | exc (C f : Str) (d : D) (ρ : PEnv) | bad
abbrev SX := PEnv → Sr
def Sr.of {α : Type} (r : Rs α) (k : α → PEnv → Sr) : Sr := match r with
  | .ok a ρ => k a ρ
  | .exc C f d ρ => .exc C f d ρ
  | .bad => .bad
@[simp] theorem Sr.of_ok {α : Type} {a : α} {ρ : PEnv} {k : α → PEnv → Sr} : Sr.of (.ok a ρ) k = k a ρ := rfl
@[simp] theorem Sr.of_exc {α : Type} {C f : Str} {d : D} {ρ : PEnv} {k : α → PEnv → Sr} : Sr.of (.exc C f d ρ : Rs α) k = .exc C f d ρ := rfl
def Sr.seq (r : Sr) (k : SX) : Sr := match r with
  | .nx ρ => k ρ
  | r => r
@[simp] theorem Sr.seq_nx {ρ : PEnv} {k : SX} : (Sr.nx ρ).seq k = k ρ := rfl
@[simp] theorem Sr.seq_rt {d : D} {ρ : PEnv} {k : SX} : (Sr.rt d ρ).seq k = .rt d ρ := rfl
@[simp] theorem Sr.seq_rf {ds : List D} {ρ : PEnv} {k : SX} : (Sr.rf ds ρ).seq k = .rf ds ρ := rfl
@[simp] theorem Sr.seq_exc {C f : Str} {d : D} {ρ : PEnv} {k : SX} : (Sr.exc C f d ρ).seq k = .exc C f d ρ := rfl
@[simp] theorem Sr.seq_bk {ρ : PEnv} {k : SX} : (Sr.bk ρ).seq k = .bk ρ := rfl
@[simp] theorem Sr.seq_ct {ρ : PEnv} {k : SX} : (Sr.ct ρ).seq k = .ct ρ := rfl
def PostS (G : Gx) (F : Fr) (W : WX) (Hf : Hp) (En : L2.Ends) : Sr → Prop
  | .nx ρ' => ∀ σ' H' Hf', Rep G F σ' H' Hf' ρ' → Same Hf Hf' → En.nx σ' H'
  | .rt d ρ' => ∀ v σ' H' Hf', Rep G F σ' H' Hf' ρ' → Same Hf Hf' → Rp G Hf' v d → En.rt v H'
  | .rf ds ρ' => ∀ (p : Addr) (vs : List V) σ' H' Hf', Rep G F σ' H' Hf' ρ' → Same Hf Hf' → H' p = none → RpL G Hf' vs ds → En.rt (.ref p) (upd H' p (.lst vs))
  | .bk ρ' => ∀ σ' H' Hf', Rep G F σ' H' Hf' ρ' → Same Hf Hf' → En.bk σ' H'
  | .ct ρ' => ∀ σ' H' Hf', Rep G F σ' H' Hf' ρ' → Same Hf Hf' → En.ct σ' H'
  | .exc C f d ρ' => ∀ v dd σ' H' Hf', Rep G F σ' H' Hf' ρ' → Same Hf Hf' → Rp G Hf' v d → Hf' dd = some (.xd [(f, v)]) → W (.ref (G.cm C)) (some dd) σ' H'
  | .bad => False
section
variable {G : Gx} {F : Fr} {W : WX} {Hf Hf' : Hp} {En : L2.Ends}
theorem PostS.mono {r : Sr} (h : PostS G F W Hf En r) (s : Same Hf Hf') : PostS G F W Hf' En r := by
  cases r with
  | nx ρ => exact fun σ2 H2 Hf2 R t => h σ2 H2 Hf2 R (s.trans t)
  | rt d ρ => exact fun v σ2 H2 Hf2 R t => h v σ2 H2 Hf2 R (s.trans t)
  | rf ds ρ => exact fun p vs σ2 H2 Hf2 R t => h p vs σ2 H2 Hf2 R (s.trans t)
  | bk ρ => exact fun σ2 H2 Hf2 R t => h σ2 H2 Hf2 R (s.trans t)
  | ct ρ => exact fun σ2 H2 Hf2 R t => h σ2 H2 Hf2 R (s.trans t)
  | exc C f d ρ => exact fun v dd σ2 H2 Hf2 R t => h v dd σ2 H2 Hf2 R (s.trans t)
  | bad => exact h
theorem PostS.of {α : Type} {σ : L2.St} {r : Rs α} {k : α → PEnv → Sr} (h : PostS G F W Hf En (Sr.of r k)) : PostE G F W σ Hf (fun a _ Hf' ρ' => PostS G F W Hf' En (k a ρ')) r := by
  cases r with
  | ok a ρ' => exact fun H2 Hf2 R t => PostS.mono h t
  | exc C f d ρ' => exact fun v dd H2 Hf2 R t => h v dd σ H2 Hf2 R t
  | bad => exact h
end
def DS (G : Gx) (X : Cx) (W : WX) (st : Stmt) (f : SX) : Prop := ∃ t, PS X st t ∧ ∀ (F : Fr) (σ : L2.St) (H Hf : Hp) (ρ : PEnv) (En : L2.Ends), Rep G F σ H Hf ρ → PostS G F W Hf En (f ρ) → t En σ H
def DSs (G : Gx) (X : Cx) (W : WX) (sts : List Stmt) (f : SX) : Prop := ∃ t, PSs X sts t ∧ ∀ (F : Fr) (σ : L2.St) (H Hf : Hp) (ρ : PEnv) (En : L2.Ends), Rep G F σ H Hf ρ → PostS G F W Hf En (f ρ) → t En σ H
section
variable {G : Gx} {X : Cx} {W : WX} {e a : Expr} {es : List Expr} {st : Stmt} {rest b1 b2 : List Stmt} {f f1 f2 : SX} {fe : EX} {pos : Pos}
def sNil : SX := fun ρ => .nx ρ
def sSeq (f g : SX) : SX := fun ρ => (f ρ).seq g
theorem dss_nil : DSs G X W [] sNil := ⟨_, pss_nil, fun F σ H Hf ρ En R p => p σ H Hf R (Same.refl _)⟩
theorem dss_one (h : DS G X W st f) : DSs G X W [st] f := by
  obtain ⟨t, p, q⟩ := h
  exact ⟨t, pss_one p, q⟩
theorem PostS.seq {F : Fr} {Hf : Hp} {En : L2.Ends} {r : Sr} {k : SX} (h : PostS G F W Hf En (r.seq k)) : PostS G F W Hf { En with nx := fun σ' H' => ∃ Hf' ρ', Rep G F σ' H' Hf' ρ' ∧ PostS G F W Hf' En (k ρ') } r := by
  cases r with
  | nx ρ => exact fun σ2 H2 Hf2 R t => ⟨Hf2, ρ, R, PostS.mono h t⟩
  | rt d ρ => exact h
  | rf ds ρ => exact h
  | bk ρ => exact h
  | ct ρ => exact h
  | exc C f d ρ => exact h
  | bad => exact h
/-- what is behind a statement, however the statement ends: the rest is read once -/
theorem dss_cons (h1 : DS G X W st f1) (h2 : DSs G X W rest f2) : DSs G X W (st :: rest) (sSeq f1 f2) := by
  obtain ⟨t1, p1, q1⟩ := h1
  obtain ⟨t2, p2, q2⟩ := h2
  refine ⟨_, pss_mid p1 p2, fun F σ H Hf ρ En R p => ?_⟩
  refine ⟨fun σ' H' => ∃ Hf' ρ', Rep G F σ' H' Hf' ρ' ∧ PostS G F W Hf' En (f2 ρ'), q1 F σ H Hf ρ _ R (PostS.seq p), fun τ J ⟨Hf', ρ', R', q⟩ => q2 F τ J Hf' ρ' En R' q⟩
def sRet (fe : EX) : SX := fun ρ => Sr.of (fe ρ) fun d ρ1 => .rt d ρ1
theorem ds_ret (h : DE G X W e fe) : DS G X W (.Return (some e) pos) (sRet fe) := by
  obtain ⟨t, p1, q1⟩ := DE.elim h
  exact ⟨_, ps_ret p1, fun F σ H Hf ρ En R p => q1 F σ H Hf ρ _ R ((PostS.of p).imp fun d H1 Hf1 ρ1 _ R1 s1 p v r => p v σ H1 Hf1 R1 (Same.refl _) r)⟩
/-- a new list is given back -/
def sRetF (fl : PEnv → Rs (List D)) : SX := fun ρ => Sr.of (fl ρ) fun ds ρ1 => .rf ds ρ1
theorem ds_retF {fl : PEnv → Rs (List D)} (h : DF G X W e fl) : DS G X W (.Return (some e) pos) (sRetF fl) := by
  obtain ⟨t, p1, q1⟩ := h
  exact ⟨_, ps_ret p1, fun F σ H Hf ρ En R p => q1 F σ H Hf ρ _ R ((PostS.of p).imp fun ds H1 Hf1 ρ1 _ R1 s1 p a vs na r => p a vs σ H1 Hf1 R1 (Same.refl _) na r)⟩
def sRetN : SX := fun ρ => .rt .non ρ
def sExpr (fe : EX) : SX := fun ρ => Sr.of (fe ρ) fun _ ρ1 => .nx ρ1
def sSet (i : Nat) (fe : EX) : SX := fun ρ => Sr.of (fe ρ) fun d ρ1 => if notBor ρ1 i = true then .nx (ρ1.set i (.val d)) else .bad
theorem ds_set {i : Nat} {x : Str} {pos' : Pos} (hN : X.N.Nodup) (h : DE G X W e fe) (hi : X.N[i]? = some x := by rfl) (hx : Loc X.env.scope x := by first | exact .inl rfl | exact .inr rfl) (hs : swapsWith e (some (.Name x pos')) pos.line X.env = pure false := by rfl) (hf : X.fn x = true ∨ X.env.scope.names.lookup x = some .local := by first | exact .inl rfl | exact .inr rfl | assumption) :
    DS G X W (.Assign [.Name x pos'] e pos) (sSet i fe) := by
  obtain ⟨t, p1, q1⟩ := DE.elim h
  refine ⟨_, ps_set (i := i) hN hi hx p1 hs hf, fun F σ H Hf ρ En R p => q1 F σ H Hf ρ _ R ((PostS.of p).imp fun d H1 Hf1 ρ1 _ R1 s1 p v r => ?_)⟩
  split at p
  · exact p _ _ _ (R1.set i r) (Same.refl _)
  · exact p.elim
/-- x = a new list, which stays one's own -/
def sOwn (i : Nat) (fl : PEnv → Rs (List D)) : SX := fun ρ => Sr.of (fl ρ) fun ds ρ1 => if notBor ρ1 i = true then .nx (ρ1.set i (.own (.lst ds))) else .bad
theorem own_new {F : Fr} {σ : L2.St} {H Hf : Hp} {ρ : PEnv} (R : Rep G F σ H Hf ρ) (i : Nat) {p : Addr} {vs : List V} {ds : List D} (np : H p = none) (r : RpL G Hf vs ds) : Rep G F (σ.set i (some (.ref p))) (upd H p (.lst vs)) Hf (ρ.set i (.own (.lst ds))) := by
  refine (R.side np (.lst vs)).setOwn (ds := .lst ds) i upd_same (R.nf np) ?_ r fun j c es e1 e2 h => ?_
  · cases h : F.Pt p with
    | none => rfl
    | some o => have := (R.prot p o h).1; rw [np] at this; cases this
  · obtain ⟨q, m⟩ := (R.cell j c e1).mut e2
    have := m.at_
    rw [h] at this
    cases this
    exact m.ne np rfl
theorem ds_own {i : Nat} {x : Str} {pos' : Pos} {fl : PEnv → Rs (List D)} (hN : X.N.Nodup) (h : DF G X W e fl) (hi : X.N[i]? = some x := by rfl) (hx : Loc X.env.scope x := by first | exact .inl rfl | exact .inr rfl) (hs : swapsWith e (some (.Name x pos')) pos.line X.env = pure false := by rfl) (hf : X.fn x = true ∨ X.env.scope.names.lookup x = some .local := by first | exact .inl rfl | exact .inr rfl | assumption) :
    DS G X W (.Assign [.Name x pos'] e pos) (sOwn i fl) := by
  obtain ⟨t, p1, q1⟩ := h
  refine ⟨_, ps_set (i := i) hN hi hx p1 hs hf, fun F σ H Hf ρ En R p => q1 F σ H Hf ρ _ R ((PostS.of p).imp fun ds H1 Hf1 ρ1 _ R1 s1 p a vs na r => ?_)⟩
  split at p
  · exact p _ _ _ (own_new R1 i na r) (Same.refl _)
  · exact p.elim
/-- a target of several names -/
def sAsg (fe : EX) (g : TGf) : SX := fun ρ => Sr.of (fe ρ) fun d ρ1 => match g d ρ1 with
  | some ρ2 => .nx ρ2
  | none => .bad
/-- x, y = a, b -/
def sPar (i j : Nat) (os : List Opd) : SX := fun ρ => Sr.of (evs os ρ) fun as ρ1 => match vals? as with
  | some [d, d2] => if notBor ρ1 i = true ∧ notBor ρ1 j = true then .nx ((ρ1.set i (.val d)).set j (.val d2)) else .bad
  | _ => .bad
theorem ds_par {i j : Nat} {x y : Str} {c d : Expr} {os : List Opd} {px py pt : Pos} {kt k2 pt2} (hN : X.N.Nodup) (ha : DA G X W [c, d] os) (hi : X.N[i]? = some x := by rfl) (hj : X.N[j]? = some y := by rfl) (hij : i ≠ j := by decide)
    (hx : X.env.scope.names.lookup x = some .local := by rfl) (hy : X.env.scope.names.lookup y = some .local := by rfl)
    (hw : swappedStores [.Tuple [.Name x px, .Name y py] kt pt] (.Tuple [c, d] k2 pt2) X.env = pure (some [x, y]) := by rfl) (hc : X.calm = true := by rfl)
    (hs : swapsWithSole [.Tuple [.Name x px, .Name y py] kt pt] (.Tuple [c, d] k2 pt2) pos.line X.env = pure false := by rfl) : DS G X W (.Assign [.Tuple [.Name x px, .Name y py] kt pt] (.Tuple [c, d] k2 pt2) pos) (sPar i j os) := by
  obtain ⟨t, p1, q1⟩ := ha
  refine ⟨_, ps_par (i := i) (j := j) hc hN hi hj hij hx hy p1 hw hs, fun F σ H Hf ρ En R p => q1 F σ H Hf ρ _ R ((PostS.of p).imp fun as H1 Hf1 ρ1 _ R1 s1 p vs rs => ?_)⟩
  split at p
  · rename_i d1 d2 hv
    cases rs.vals hv with
    | cons r1 t =>
      cases t with
      | cons r2 t =>
        cases t
        split at p
        · exact ⟨_, _, rfl, p _ _ _ ((R1.set i r1).set j r2) (Same.refl _)⟩
        · exact p.elim
  · exact p.elim
def sIf (g : BX) (f1 f2 : SX) : SX := fun ρ => Sr.of (g ρ) fun b ρ1 => if b = true then f1 ρ1 else f2 ρ1
theorem ds_if {c : Expr} {g : BX} (hc : DT G X W c g) (ha : DSs G X W b1 f1) (hb : DSs G X W b2 f2) : DS G X W (.If c b1 b2 pos) (sIf g f1 f2) := by
  obtain ⟨t, p0, q0⟩ := hc
  obtain ⟨t1, p1, q1⟩ := ha
  obtain ⟨t2, p2, q2⟩ := hb
  refine ⟨_, ps_if p0 p1 p2, fun F σ H Hf ρ En R p => q0 F σ H Hf ρ _ R ((PostS.of p).imp fun b H1 Hf1 ρ1 _ R1 s1 p => ?_)⟩
  by_cases hk : b = true
  · rw [if_pos hk] at p ⊢
    exact q1 F σ H1 Hf1 ρ1 _ R1 p
  · rw [if_neg hk] at p ⊢
    exact q2 F σ H1 Hf1 ρ1 _ R1 p
/-- a list of one's own is frozen first -/
def frz (i : Nat) (ρ : PEnv) : Option PEnv := match ρ[i]? with
  | some (.own (.lst ds)) => some (ρ.set i (.val (.lst ds)))
  | some (.val _) => some ρ
  | _ => none
/-! ### changing a list of one's own -/
def putAt (i : Nat) (g : List D → Option (List D)) (ρ : PEnv) : Option PEnv := (ρ[i]?).bind fun c => (c.lst?).bind fun ds => (g ds).map fun es => ρ.set i (c.put (.lst es))
theorem put_ok {F : Fr} {σ : L2.St} {H Hf : Hp} {ρ ρ1 : PEnv} {i : Nat} {g : List D → Option (List D)} (R : Rep G F σ H Hf ρ) (h : putAt i g ρ = some ρ1) :
    ∃ p vs ds es, σ[i]? = some (some (.ref p)) ∧ H p = some (.lst vs) ∧ RpL G Hf vs ds ∧ g ds = some es ∧ ∀ ws, RpL G Hf ws es → Rep G F σ (upd H p (.lst ws)) Hf ρ1 := by
  unfold putAt at h
  obtain ⟨c, h1, h⟩ := Option.bind_eq_some_iff.mp h
  obtain ⟨ds, h2, h⟩ := Option.bind_eq_some_iff.mp h
  obtain ⟨es, h3, rfl⟩ := Option.map_eq_some_iff.mp h
  obtain ⟨p, m⟩ := (R.cell i c h1).mut (Cell.of_lst h2)
  obtain ⟨o0, hp, r0⟩ := m.ls
  obtain ⟨vs, rfl, r⟩ := r0.lst
  exact ⟨p, vs, ds, es, m.at_, hp, r, h3, fun ws rw => R.write (es := .lst es) (ws := .lst ws) h1 (Cell.of_lst h2) m.at_ rw⟩
def appG (d : D) (ds : List D) : Option (List D) := if ds.length < sizeLine then some (ds ++ [d]) else none
def sApp (i : Nat) (fe : EX) : SX := fun ρ => Sr.of (fe ρ) fun d ρ1 => match putAt i (appG d) ρ1 with
  | some ρ2 => .nx ρ2
  | none => .bad
theorem mut_at {F : Fr} {σ : L2.St} {H Hf : Hp} {ρ : PEnv} {i : Nat} (R : Rep G F σ H Hf ρ) (h : ((ρ[i]?).bind Cell.lst?).isSome = true) : ∃ p vs, σ[i]? = some (some (.ref p)) ∧ H p = some (.lst vs) := by
  obtain ⟨ds, h⟩ := Option.isSome_iff_exists.mp h
  obtain ⟨c, h1, h2⟩ := Option.bind_eq_some_iff.mp h
  obtain ⟨p, m⟩ := (R.cell i c h1).mut (Cell.of_lst h2)
  obtain ⟨o0, hp, r0⟩ := m.ls
  obtain ⟨vs, rfl, _⟩ := r0.lst
  exact ⟨p, vs, m.at_, hp⟩
def sMut (i : Nat) (f : SX) : SX := fun ρ => if ((ρ[i]?).bind Cell.lst?).isSome = true then f ρ else .bad
theorem ds_app {i : Nat} {x : Str} {p1 apos cpos : Pos} (h : DE G X W e fe) (hN : X.N[i]? = some x := by rfl) (hv : Vis X.env.scope x := by first | exact .inl rfl | exact .inr (.inl rfl) | exact .inr (.inr rfl)) (hd : (x == ("__debug__" : Str)) = false := by decide) (hcd : (x == ("__classdict__" : Str)) = false := by decide)
    (hs2 : swapsWith (.Call (.Attribute (.Name x p1) "append" apos) [e] [] cpos) none pos.line X.env = pure false := by rfl)
    (hbase : attributeBase (.Name x p1) "append" X.env (eval (.Name x p1) X.env) = eval (.Name x p1) X.env := by rfl)
    (hfew : ((backTo cpos (starEach [e] X.env)).all (fun x => !x.1) && (backToKw cpos (keywordEach [] X.env)).all (fun x => x.1.isSome)
      && decide ([e].length + ([] : List Keyword).length + (if ([] : List Keyword).isEmpty then 0 else 1) < 30)) = true := by rfl)
    (hline : (apos.endLine == cpos.line) = true := by rfl) (hs : starEach [e] X.env = (false, eval e X.env) :: starEach [] X.env := by rfl) (hplain : (backTo cpos (starEach [] X.env)).any (·.1) = false := by rfl) :
    DS G X W (.Expr (.Call (.Attribute (.Name x p1) "append" apos) [e] [] cpos) pos) (sMut i (sApp i fe)) := by
  obtain ⟨t, p1, q1⟩ := DE.elim h
  refine ⟨_, ps_expr (pe_bm PySem.F.plainAttrs_list PySem.F.slot_list_append PySem.F.type_list_append mt_append (pe_var (i := i) hN hv hd hcd) (pa_cons p1 pa_nil hs) hbase hfew hline hs hplain) hs2, fun F σ H Hf ρ En R p => ?_⟩
  unfold sMut at p
  split at p
  · rename_i hm
    obtain ⟨a, ws, h1, h2⟩ := mut_at R hm
    refine ⟨.ref a, h1, .inl ⟨rfl, ws, SqL.hp h2⟩, q1 F σ H Hf ρ _ R ((PostS.of p).imp fun d H1 Hf1 ρ1 _ R1 s1 p v r => ?_)⟩
    split at p
    · rename_i ρ2 e2
      obtain ⟨b, vs, ds, es, h3, h4, h5, h6, h7⟩ := put_ok R1 e2
      rw [h1] at h3
      cases h3
      unfold appG at h6
      obtain ⟨c, rfl⟩ := ite_some' h6
      exact ⟨a, vs, v, rfl, rfl, h4, by rw [h5.len]; exact c, p σ _ Hf1 (h7 _ (h5.app (.cons r .nil))) (Same.refl _)⟩
    · exact p.elim
  · exact p.elim
def setG (k : Int) (d : D) (ds : List D) : Option (List D) := (ixN ds.length k).map fun j => ds.set j d
/-- x[k] = v -/
def sPut (i : Nat) (fe fk : EX) : SX := fun ρ => Sr.of (fe ρ) fun d ρ1 => sMut i (fun ρ1 => Sr.of (fk ρ1) fun k ρ2 => match k with
  | .int k => (match putAt i (setG k d) ρ2 with
    | some ρ3 => .nx ρ3
    | none => .bad)
  | _ => .bad) ρ1
theorem ds_put {i : Nat} {x : Str} {k : Expr} {fk : EX} {p1 p2 : Pos} (h : DE G X W e fe) (hk : DE G X W k fk) (hN : X.N[i]? = some x := by rfl) (hv : Vis X.env.scope x := by first | exact .inl rfl | exact .inr (.inl rfl) | exact .inr (.inr rfl)) (hd : (x == ("__debug__" : Str)) = false := by decide) (hcd : (x == ("__classdict__" : Str)) = false := by decide)
    (ha : ∀ v, assign (.Subscript (.Name x p1) k p2) X.env v = (do
      let ov ← holding [v] (eval (.Name x p1) X.env)
      let iv ← holding [v, ov] (eval k X.env)
      standAt p2
      holding [v, ov, iv] (setItem ov iv v)
      release [v, ov, iv] []) := by intro _; rfl)
    (hs : swapsWithSole [.Subscript (.Name x p1) k p2] e pos.line X.env = pure false := by rfl) (hw : swappedStores [.Subscript (.Name x p1) k p2] e X.env = pure none := by rfl)
    (h1 : (assignEach [.Subscript (.Name x p1) k p2] X.env).map (·.2) = [assign (.Subscript (.Name x p1) k p2) X.env] := by rfl) : DS G X W (.Assign [.Subscript (.Name x p1) k p2] e pos) (sPut i fe fk) := by
  obtain ⟨t1, p1, q1⟩ := DE.elim h
  obtain ⟨t2, p2, q2⟩ := DE.elim hk
  refine ⟨_, ps_asg p1 (pg_sub (pe_var (i := i) hN hv hd hcd) p2 set_list ha) hs hw h1, fun F σ H Hf ρ En R p => q1 F σ H Hf ρ _ R ((PostS.of p).imp fun d H1 Hf1 ρ1 _ R1 s1 p v r => ?_)⟩
  unfold sMut at p
  split at p
  · rename_i hm
    obtain ⟨a, ws, h1, h2⟩ := mut_at R1 hm
    refine ⟨.ref a, h1, q2 F σ H1 Hf1 ρ1 _ R1 ((PostS.of p).imp fun kd H2 Hf2 ρ2 _ R2 s2 p u ru => ?_)⟩
    cases kd with
    | int k =>
      obtain rfl := rp_i ru
      change PostS G F W Hf2 En (match putAt i (setG k d) ρ2 with
        | some ρ3 => .nx ρ3
        | none => .bad) at p
      split at p
      · rename_i ρ3 e3
        obtain ⟨b, vs, ds, es, h3, h4, h5, h6, h7⟩ := put_ok R2 e3
        rw [h1] at h3
        cases h3
        obtain ⟨j, hj, rfl⟩ := Option.map_eq_some_iff.mp h6
        exact ⟨a, vs, k, j, rfl, rfl, h4, by rw [h5.len]; exact hj, p σ _ Hf2 (h7 _ (RpL.set (r.mono s2) j h5)) (Same.refl _)⟩
      · exact p.elim
    | _ => exact p.elim
  · exact p.elim
end
end Spk
namespace Spk
open PySem PySem.Spec PyProof.Rows L2
/-! ### what is walked -/
def WalkD (G : Gx) (J : It) (ds : List D) (Hf : Hp) : Prop := ∀ (F : Fr) (σ : L2.St) (H Hf' : Hp) (ρ : PEnv) (i : Nat), Rep G F σ H Hf' ρ → Same Hf Hf' →
  (i < ds.length → J.go i H) ∧ J.stop ds.length H ∧ ∀ x H2, i < ds.length → J.yld i H x H2 → ∃ Hf2 d, Rep G F σ H2 Hf2 ρ ∧ Same Hf' Hf2 ∧ ds[i]? = some d ∧ Rp G Hf2 x d
def DI (G : Gx) (X : Cx) (W : WX) (tg e : Expr) (it : PEnv → Rs (List D)) : Prop := ∃ wi, PI X tg e wi ∧ ∀ (F : Fr) (σ : L2.St) (H Hf : Hp) (ρ : PEnv) (R : It → Hp → Prop), Rep G F σ H Hf ρ →
  PostE G F W σ Hf (fun ds H' Hf' _ => ∀ J, WalkD G J ds Hf' → R J H') (it ρ) → wi σ H R
def seqD : D → Option (List D)
  | .lst ds => some ds
  | .tup ds => some ds
  | .scr ns => some (ns.map D.int)
  | _ => none
section
variable {G : Gx} {X : Cx} {W : WX} {e e2 tg : Expr} {es : List Expr} {pos p : Pos}
def fSeq (f : EX) : PEnv → Rs (List D) := fun ρ => (f ρ).bind fun d ρ1 => Rs.lift (seqD d) ρ1
/-- range -/
def rngD (lo : Int) (n : Nat) : List D := (List.range n).map fun i : Nat => D.int (lo + (i : Int))
theorem walkD_rng {lo : Int} {n : Nat} {Hf : Hp} : WalkD G (Itr lo n) (rngD lo n) Hf := by
  intro F σ H Hf' ρ i R s
  have ln : (rngD lo n).length = n := by simp [rngD]
  rw [ln]
  refine ⟨fun hi => hi, Nat.le_refl _, fun x H2 hi y => ?_⟩
  obtain ⟨rfl, rfl⟩ := y
  exact ⟨Hf', .int (lo + (i : Int)), R, Same.refl _, by simp [rngD, hi], .int _⟩
def fRng1 (f : EX) : PEnv → Rs (List D) := fun ρ => (f ρ).bind fun d ρ1 => match d with
  | .int j => if -(2 ^ 62) ≤ j ∧ j < 2 ^ 62 then .ok (rngD 0 j.toNat) ρ1 else .bad
  | _ => .bad
theorem di_rng1 {f : EX} (h : DE G X W e f) (hg : Gl X "range") (hm : X.mg "range" = none) (hs : starEach [e] X.env = [(false, eval e X.env)] := by rfl) : DI G X W tg (.Call (.Name "range" p) [e] [] pos) (fRng1 f) := by
  obtain ⟨t, p1, q1⟩ := DE.elim h
  refine ⟨_, pi_range1 hg hm (pa_cons p1 pa_nil hs) hs, fun F σ H Hf ρ R Rr p => ?_⟩
  refine q1 F σ H Hf ρ _ Rr ((PostE.bind p).imp fun d H1 Hf1 ρ1 _ R1 s1 p v r => ?_)
  cases d with
  | int j =>
    obtain rfl := rp_i r
    change PostE G F W σ Hf1 _ (if -(2 ^ 62) ≤ j ∧ j < 2 ^ 62 then Rs.ok (rngD 0 j.toNat) ρ1 else Rs.bad) at p
    by_cases c : -(2 ^ 62) ≤ j ∧ j < 2 ^ 62
    · rw [if_pos c] at p
      exact ⟨j, rfl, c.1, c.2, p H1 Hf1 R1 (Same.refl _) _ walkD_rng⟩
    · rw [if_neg c] at p; exact p.elim
  | _ => exact p.elim
/-! ### for -/
def loopD (g : TGf) (body : SX) : List D → PEnv → Sr
  | [], ρ => .nx ρ
  | d :: ds, ρ => match g d ρ with
    | none => .bad
    | some ρ1 => match body ρ1 with
      | .nx ρ2 => loopD g body ds ρ2
      | .ct ρ2 => loopD g body ds ρ2
      | .bk ρ2 => .nx ρ2
      | r => r
def sFor (it : PEnv → Rs (List D)) (g : TGf) (body : SX) : SX := fun ρ => Sr.of (it ρ) fun ds ρ1 => loopD g body ds ρ1
theorem ds_for {body : List Stmt} {idx : List Nat} {it : PEnv → Rs (List D)} {g : TGf} {f : SX} (hi : DI G X W tg e it) (hg : DG G X tg idx g) (hb : DSs G X W body f) (hp : PassesOwn (model X.prog X.w) X.A X.env X.xe) (hc : X.calm = true := by rfl)
    (hs : ∀ x, foldedSetIterable e X.env x = pure x := by intro _; rfl) : DS G X W (.For tg e body [] pos) (sFor it g f) := by
  obtain ⟨wi, p1, q1⟩ := hi
  obtain ⟨t2, p2, q2⟩ := hg
  obtain ⟨t3, p3, q3⟩ := hb
  refine ⟨_, ps_for hp hc p1 p2 p3 hs, fun F σ H Hf ρ En R p => ?_⟩
  refine q1 F σ H Hf ρ _ R ((PostS.of p).imp fun ds H1 Hf1 ρ1 _ R1 s1 p J w => ?_)
  refine ⟨fun i m σ H => m = ds.length - i ∧ i ≤ ds.length ∧ ∃ Hf' ρ', Same Hf1 Hf' ∧ Rep G F σ H Hf' ρ' ∧ PostS G F W Hf' En (loopD g f (ds.drop i) ρ'), ⟨_, rfl, Nat.zero_le _, Hf1, ρ1, Same.refl _, R1, p⟩, ?_⟩
  rintro i m σ2 H2 ⟨rfl, hi, Hf2, ρ2, s2, R2, p⟩
  obtain ⟨w1, w2, w3⟩ := w F σ2 H2 Hf2 ρ2 i R2 s2
  by_cases hlt : i < ds.length
  · refine .inr ⟨w1 hlt, fun σ H => i + 1 ≤ ds.length ∧ ∃ Hf' ρ', Same Hf1 Hf' ∧ Rep G F σ H Hf' ρ' ∧ PostS G F W Hf' En (loopD g f (ds.drop (i + 1)) ρ'), fun σ' H' h => ⟨ds.length - (i + 1), by omega, rfl, h⟩, fun x H3 y => ?_⟩
    obtain ⟨Hf3, d, R3, s3, hd, r⟩ := w3 x H3 hlt y
    have e1 : ds.drop i = d :: ds.drop (i + 1) := by
      rw [List.drop_eq_getElem_cons hlt]
      rw [List.getElem?_eq_getElem hlt] at hd
      rw [Option.some.inj hd]
    rw [e1] at p
    unfold loopD at p
    cases hgd : g d ρ2 with
    | none => rw [hgd] at p; exact p.elim
    | some ρ3 =>
      rw [hgd] at p
      refine q2 F σ2 H3 Hf3 ρ2 ρ3 x d _ R3 r hgd fun σ3 R4 _ => ?_
      refine q3 F σ3 H3 Hf3 ρ3 _ R4 ?_
      have p := p.mono s3
      change PostS G F W Hf3 En (match f ρ3 with
        | .nx ρ2 => loopD g f (ds.drop (i + 1)) ρ2
        | .ct ρ2 => loopD g f (ds.drop (i + 1)) ρ2
        | .bk ρ2 => .nx ρ2
        | r => r) at p
      cases hr : f ρ3 with
      | nx ρ4 => rw [hr] at p; exact fun σ5 H5 Hf5 R5 s5 => ⟨hlt, Hf5, ρ4, s2.trans (s3.trans s5), R5, p.mono s5⟩
      | ct ρ4 => rw [hr] at p; exact fun σ5 H5 Hf5 R5 s5 => ⟨hlt, Hf5, ρ4, s2.trans (s3.trans s5), R5, p.mono s5⟩
      | bk ρ4 => rw [hr] at p; exact p
      | rt d ρ4 => rw [hr] at p; exact p
      | rf d ρ4 => rw [hr] at p; exact p
      | exc C f' d ρ4 => rw [hr] at p; exact p
      | bad => rw [hr] at p; exact p
  · have e : i = ds.length := by omega
    subst e
    rw [List.drop_length] at p
    exact .inl ⟨w2, p σ2 H2 Hf2 R2 (Same.refl _)⟩
end
end Spk
namespace Spk
open PySem PySem.Spec PyProof.Rows L2
/-! ### comprehensions -/
def Rs.nx {α : Type} : Rs α → Rs α
  | .exc _ _ _ _ => .bad
  | r => r
@[simp] theorem Rs.nx_ok {α : Type} {a : α} {ρ : PEnv} : (Rs.ok a ρ).nx = .ok a ρ := rfl
@[simp] theorem Rs.nx_bad {α : Type} : (Rs.bad : Rs α).nx = .bad := rfl
def wipeE (ρ : PEnv) : List Nat → PEnv
  | [] => ρ
  | v :: vs => (wipeE ρ vs).set v .no
/-- the names of the comprehension get back what they had outside -/
def backE (ρ3 ρ : PEnv) : List Nat → PEnv
  | [] => ρ3
  | v :: vs => (backE ρ3 ρ vs).set v (ρ.getD v .no)
def noMut (ρ : PEnv) (vs : List Nat) : Bool := vs.all fun v => ((ρ.getD v .no).mu?).isNone
def lcD (vs : List Nat) (g : TGf) (c : BX) (f : EX) : List D → PEnv → Rs (List D)
  | [], ρ => .ok [] ρ
  | d :: ds, ρ => match g d (wipeE ρ vs) with
    | none => .bad
    | some ρ1 => (c ρ1).nx.bind fun b ρ2 => if b = true then (f ρ2).nx.bind fun y ρ3 => (lcD vs g c f ds (backE ρ3 ρ vs)).bind fun ys ρ4 => .ok (y :: ys) ρ4 else lcD vs g c f ds (backE ρ2 ρ vs)
def fLc (it : PEnv → Rs (List D)) (vs : List Nat) (g : TGf) (c : BX) (f : EX) : PEnv → Rs (List D) := fun ρ => (it ρ).bind fun ds ρ1 => if noMut ρ1 vs = true ∧ ds.length ≤ sizeLine then lcD vs g c f ds ρ1 else .bad
section
variable {G : Gx} {F : Fr} {σ σ2 : L2.St} {H Hf H' Hf' : Hp} {ρ ρ3 : PEnv}
theorem backE_len (ρ3 ρ : PEnv) : ∀ vs, (backE ρ3 ρ vs).length = ρ3.length
  | [] => rfl
  | v :: vs => by unfold backE; rw [List.length_set, backE_len ρ3 ρ vs]
theorem Rep.wipe (R : Rep G F σ H Hf ρ) : ∀ vs, Rep G F (L2.wipe σ vs) H Hf (wipeE ρ vs)
  | [] => R
  | v :: vs => (Rep.wipe R vs).drop v none
theorem backE_at {vs : List Nat} {j : Nat} {c : Cell} (h : (backE ρ3 ρ vs)[j]? = some c) : (j ∈ vs ∧ c = ρ.getD j .no) ∨ (j ∉ vs ∧ ρ3[j]? = some c) := by
  induction vs with
  | nil => exact .inr ⟨List.not_mem_nil, h⟩
  | cons v vs ih =>
    unfold backE at h
    rcases set_at h with ⟨rfl, rfl, _⟩ | ⟨ne, h⟩
    · exact .inl ⟨List.mem_cons_self, rfl⟩
    · rcases ih h with ⟨h1, h2⟩ | ⟨h1, h2⟩
      · exact .inl ⟨List.mem_cons_of_mem _ h1, h2⟩
      · exact .inr ⟨fun z => by rcases List.mem_cons.mp z with z | z; exact ne z.symm; exact h1 z, h2⟩
theorem wipe_out : ∀ {vs : List Nat} {j : Nat} {σ : L2.St}, j ∉ vs → (L2.wipe σ vs)[j]? = σ[j]?
  | [], _, _, _ => rfl
  | v :: vs, j, σ, h => by
    unfold L2.wipe
    rw [List.getElem?_set_ne (fun z : v = j => h (by rw [z]; exact List.mem_cons_self))]
    exact wipe_out fun z => h (List.mem_cons_of_mem _ z)
/-- behind a turn of a comprehension: the slots of the def as they were -/
theorem Rep.back (R : Rep G F σ H Hf ρ) (R2 : Rep G F σ2 H' Hf' ρ3) (s : Same Hf Hf') {vs : List Nat} (hw : L2.wipe σ2 vs = L2.wipe σ vs) (nm : noMut ρ vs = true) : Rep G F σ H' Hf' (backE ρ3 ρ vs) := by
  have ls : σ.length = σ2.length := by
    have := congrArg List.length hw
    rw [wipe_length, wipe_length] at this
    exact this.symm
  have at2 : ∀ j, j ∉ vs → σ2[j]? = σ[j]? := fun j h => by rw [← wipe_out (σ := σ2) h, hw, wipe_out h]
  have nml : ∀ j c ds, (backE ρ3 ρ vs)[j]? = some c → c.mu? = some ds → j ∉ vs ∧ ρ3[j]? = some c := fun j c ds e m => by
    rcases backE_at e with ⟨h1, h2⟩ | h
    · have := List.all_eq_true.mp nm j h1
      rw [← h2, m] at this
      cases this
    · exact h
  refine ⟨by rw [backE_len, ls]; exact R2.len, R2.sub, fun j c e => ?_, fun i j ci cj ds es p ei ej mi mj si sj => ?_, R2.prot, R2.tabs⟩
  · rcases backE_at e with ⟨h1, h2⟩ | ⟨h1, h2⟩
    · cases hc : ρ[j]? with
      | none =>
        have : c = .no := by rw [h2, List.getD_eq_getElem?_getD, hc]; rfl
        subst this; trivial
      | some c' =>
        have e' : c = c' := by rw [h2, List.getD_eq_getElem?_getD, hc]; rfl
        subst e'
        have k := R.cell j c hc
        have n := List.all_eq_true.mp nm j h1
        rw [List.getD_eq_getElem?_getD, hc] at n
        cases c with
        | no => trivial
        | val d => obtain ⟨v, h, r⟩ := k; exact ⟨v, h, r.mono s⟩
        | own ds => cases n
        | bor ds => cases n
        | exn C f d => obtain ⟨a, dd, v, h0, h1, h2, r⟩ := k; exact ⟨a, dd, v, h0, h1, s _ _ h2, r.mono s⟩
    · have k := R2.cell j c h2
      have mk : ∀ ds p, MutOk G F σ2 H' Hf' j ds p → MutOk G F σ H' Hf' j ds p := fun ds p m => ⟨by rw [← at2 j h1]; exact m.at_, m.nf, m.np, m.ls⟩
      cases c with
      | no => trivial
      | val d => obtain ⟨v, h, r⟩ := k; exact ⟨v, by rw [← at2 j h1]; exact h, r⟩
      | own ds => obtain ⟨p, m⟩ := k; exact ⟨p, mk _ _ m⟩
      | bor ds => exact mk _ _ k
      | exn C f d => obtain ⟨a, dd, v, h0, h3, h4, r⟩ := k; exact ⟨a, dd, v, h0, by rw [← at2 j h1]; exact h3, h4, r⟩
  · obtain ⟨n1, e1⟩ := nml i ci ds ei mi
    obtain ⟨n2, e2⟩ := nml j cj es ej mj
    exact R2.apart i j ci cj ds es p e1 e2 mi mj (by rw [at2 i n1]; exact si) (by rw [at2 j n2]; exact sj)
/-- one more thing is protected -/
theorem Rep.guard (R : Rep G F σ H Hf ρ) {q : Addr} {o : HO} (hq : H q = some o) (nf : Hf q = none) (nm : ∀ (j : Nat) (c : Cell) (es : Mu), ρ[j]? = some c → c.mu? = some es → σ[j]? ≠ some (some (.ref q))) (nl : ∀ ps, o ≠ .tbl ps := by intro _ z; cases z) : Rep G ⟨upd F.Pt q o, F.Bp⟩ σ H Hf ρ := by
  refine ⟨R.len, R.sub, fun i c e => ?_, R.apart, fun a u e => ?_, ⟨R.tabs.tb, fun a ps e => ?_, R.tabs.nf⟩⟩
  rotate_right
  · by_cases h : a = q
    · subst h
      change upd F.Pt a o a = some _ at e
      rw [upd_same] at e
      exact nl ps (Option.some.inj e)
    · change upd F.Pt q o a = some _ at e
      rw [upd_ne h] at e
      exact R.tabs.nt a ps e
  · have k := R.cell i c e
    have mk : ∀ ds p, c.mu? = some ds → MutOk G F σ H Hf i ds p → MutOk G ⟨upd F.Pt q o, F.Bp⟩ σ H Hf i ds p := fun ds p hl m => by
      refine ⟨m.at_, m.nf, ?_, m.ls⟩
      show upd F.Pt q o p = none
      rw [upd_ne (fun z : p = q => nm i c ds e hl (by rw [← z]; exact m.at_))]
      exact m.np
    cases c with
    | no => trivial
    | val d => exact k
    | own ds => obtain ⟨p, m⟩ := k; exact ⟨p, mk _ _ rfl m⟩
    | bor ds => exact mk _ _ rfl k
    | exn C f d => exact k
  · by_cases h : a = q
    · subst h
      change upd F.Pt a o a = some u at e
      rw [upd_same] at e
      cases e
      exact ⟨hq, nf⟩
    · change upd F.Pt q o a = some u at e
      rw [upd_ne h] at e
      exact R.prot a u e
theorem Rep.unguard {q : Addr} {o : HO} (hn : F.Pt q = none) (R : Rep G ⟨upd F.Pt q o, F.Bp⟩ σ H Hf ρ) : Rep G F σ H Hf ρ ∧ H q = some o ∧ Hf q = none ∧ ∀ (j : Nat) (c : Cell) (es : Mu), ρ[j]? = some c → c.mu? = some es → σ[j]? ≠ some (some (.ref q)) := by
  have ne : ∀ p, upd F.Pt q o p = none → p ≠ q ∧ F.Pt p = none := fun p h => by
    by_cases e : p = q
    · subst e; rw [upd_same] at h; cases h
    · rw [upd_ne e] at h; exact ⟨e, h⟩
  obtain ⟨h1, h2⟩ := R.prot q o upd_same
  refine ⟨⟨R.len, R.sub, fun i c e => ?_, R.apart, fun a u e => ?_, ⟨R.tabs.tb, fun a ps e => ?_, R.tabs.nf⟩⟩, h1, h2, fun j c es e1 e2 h => ?_⟩
  · have k := R.cell i c e
    have mk : ∀ ds p, MutOk G ⟨upd F.Pt q o, F.Bp⟩ σ H Hf i ds p → MutOk G F σ H Hf i ds p := fun ds p m => ⟨m.at_, m.nf, (ne p m.np).2, m.ls⟩
    cases c with
    | no => trivial
    | val d => exact k
    | own ds => obtain ⟨p, m⟩ := k; exact ⟨p, mk _ _ m⟩
    | bor ds => exact mk _ _ k
    | exn C f d => exact k
  · exact R.prot a u (by show upd F.Pt q o a = some u; rw [upd_ne (fun z => by rw [z, hn] at e; cases e)]; exact e)
  · exact R.tabs.nt a ps (by show upd F.Pt q o a = some _; rw [upd_ne (fun z => by rw [z, hn] at e; cases e)]; exact e)
  · obtain ⟨p, m⟩ := (R.cell j c e1).mut e2
    have := m.at_
    rw [h] at this
    cases this
    exact (ne q m.np).1 rfl
/-- the list at q changes, which is no one's yet -/
theorem Rep.poke (R : Rep G F σ H Hf ρ) {q : Addr} {o : HO} (nt : ∃ xs, H q = some (.lst xs)) (nf : Hf q = none) (np : F.Pt q = none) (nm : ∀ (j : Nat) (c : Cell) (es : Mu), ρ[j]? = some c → c.mu? = some es → σ[j]? ≠ some (some (.ref q))) : Rep G F σ (upd H q o) Hf ρ := by
  refine ⟨R.len, fun b u e => by rw [upd_ne (ne_of_none e nf)]; exact R.sub _ _ e, fun i c e => ?_, R.apart, fun a u e => ?_, R.tabs.lst nt.choose_spec⟩
  · have k := R.cell i c e
    have mk : ∀ ds p, c.mu? = some ds → MutOk G F σ H Hf i ds p → MutOk G F σ (upd H q o) Hf i ds p := fun ds p hl m => by
      obtain ⟨vs, h, r⟩ := m.ls
      exact ⟨m.at_, m.nf, m.np, vs, by rw [upd_ne (fun z : p = q => nm i c ds e hl (by rw [← z]; exact m.at_))]; exact h, r⟩
    cases c with
    | no => trivial
    | val d => exact k
    | own ds => obtain ⟨p, m⟩ := k; exact ⟨p, mk _ _ rfl m⟩
    | bor ds => exact mk _ _ rfl k
    | exn C f d => exact k
  · obtain ⟨h1, h2⟩ := R.prot a u e
    exact ⟨by rw [upd_ne (fun z => by rw [z, np] at e; cases e)]; exact h1, h2⟩
/-- the heap without it -/
def hid (H : Hp) (q : Addr) : Hp := fun a => if a = q then none else H a
theorem hid_same {H : Hp} {q : Addr} : hid H q q = none := if_pos rfl
theorem hid_ne {H : Hp} {q a : Addr} (h : a ≠ q) : hid H q a = H a := if_neg h
theorem upd_hid {H : Hp} {q : Addr} {o : HO} (h : H q = some o) : upd (hid H q) q o = H := by
  funext a
  by_cases e : a = q
  · subst e; rw [upd_same, h]
  · rw [upd_ne e, hid_ne e]
theorem TabsG.hid {G : Gx} {H : Hp} {p : Addr} {xs : List V} (t : TabsG G H) (hp : H p = some (.lst xs)) : TabsG G (hid H p) := fun z hz => by
  obtain ⟨ps, h1, h2, h3⟩ := t z hz
  have k : ∀ b u, H b = some u → (∀ xs, u ≠ .lst xs) → Spk.hid H p b = some u := fun b u e n => by
    rw [hid_ne (fun z => n xs (by rw [z, hp] at e; exact (Option.some.inj e).symm))]; exact e
  refine ⟨ps, k _ _ h1 (fun _ z => by cases z), h2, fun pos cv hc => ?_⟩
  obtain ⟨c, e1, e2⟩ := h3 pos cv hc
  exact ⟨c, e1, k _ _ e2 fun _ z => by unfold LamX.CodeO at z; cases z⟩
theorem Rep.hide (R : Rep G F σ H Hf ρ) {q : Addr} (nt : ∃ xs, H q = some (.lst xs)) (nf : Hf q = none) (np : F.Pt q = none) (nm : ∀ (j : Nat) (c : Cell) (es : Mu), ρ[j]? = some c → c.mu? = some es → σ[j]? ≠ some (some (.ref q))) : Rep G F σ (hid H q) Hf ρ := by
  refine ⟨R.len, fun b u e => by rw [hid_ne (ne_of_none e nf)]; exact R.sub _ _ e, fun i c e => ?_, R.apart, fun a u e => ?_, ⟨R.tabs.tb.hid nt.choose_spec, R.tabs.nt, R.tabs.nf⟩⟩
  · have k := R.cell i c e
    have mk : ∀ ds p, c.mu? = some ds → MutOk G F σ H Hf i ds p → MutOk G F σ (hid H q) Hf i ds p := fun ds p hl m => by
      obtain ⟨vs, h, r⟩ := m.ls
      exact ⟨m.at_, m.nf, m.np, vs, by rw [hid_ne (fun z : p = q => nm i c ds e hl (by rw [← z]; exact m.at_))]; exact h, r⟩
    cases c with
    | no => trivial
    | val d => exact k
    | own ds => obtain ⟨p, m⟩ := k; exact ⟨p, mk _ _ rfl m⟩
    | bor ds => exact mk _ _ rfl k
    | exn C f d => exact k
  · obtain ⟨h1, h2⟩ := R.prot a u e
    exact ⟨by rw [hid_ne (fun z => by rw [z, np] at e; cases e)]; exact h1, h2⟩
theorem Rep.newFree (R : Rep G F σ H Hf ρ) {q : Addr} (nq : H q = none) : Hf q = none ∧ F.Pt q = none ∧ ∀ (j : Nat) (c : Cell) (es : Mu), ρ[j]? = some c → c.mu? = some es → σ[j]? ≠ some (some (.ref q)) := by
  refine ⟨R.nf nq, ?_, fun j c es e1 e2 h => ?_⟩
  · cases h : F.Pt q with
    | none => rfl
    | some o => have := (R.prot q o h).1; rw [nq] at this; cases this
  · obtain ⟨p, m⟩ := (R.cell j c e1).mut e2
    have := m.at_
    rw [h] at this
    cases this
    exact m.ne nq rfl
end
abbrev W0 : WX := fun _ _ _ _ => False
theorem PostE.nx {α : Type} {G : Gx} {F : Fr} {W W' : WX} {σ : L2.St} {Hf : Hp} {Q : α → Hp → Hp → PEnv → Prop} {r : Rs α} (h : PostE G F W σ Hf Q r.nx) : PostE G F W' σ Hf Q r := by
  cases r with
  | ok a ρ => exact h
  | exc C f d ρ => exact h.elim
  | bad => exact h
def DTs (G : Gx) (X : Cx) (W : WX) (ifs : List Expr) (f : BX) : Prop := ∃ t, PTs X ifs t ∧ ∀ (F : Fr) (σ : L2.St) (H Hf : Hp) (ρ : PEnv) (Q : Bool → Hp → Prop), Rep G F σ H Hf ρ →
  PostE G F W σ Hf (fun b H' _ _ => Q b H') (f ρ) → t σ H Q
section
variable {G : Gx} {X : Cx} {W : WX} {elt tg iter c : Expr} {ifs : List Expr} {pos : Pos}
def bYes : BX := fun ρ => .ok true ρ
theorem dts_nil : DTs G X W [] bYes := ⟨_, pts_nil, fun F σ H Hf ρ Q R p => p H Hf R (Same.refl _)⟩
theorem dts_one {f : BX} (h : DT G X W c f) : DTs G X W [c] f := by
  obtain ⟨t, p, q⟩ := h
  exact ⟨t, pts_one p, q⟩
/-! the readings of the judgements, whatever the context -/
def tDE (G : Gx) (W : WX) (f : EX) : TE := fun σ H Q => ∃ (F : Fr) (Hf : Hp) (ρ : PEnv), Rep G F σ H Hf ρ ∧ PostE G F W σ Hf (fun d H' Hf' _ => ∀ v, Rp G Hf' v d → Q v H') (f ρ)
theorem DO.pe {f : EX} (h : DE G X W elt f) : PE X elt (tDE G W f) := by
  obtain ⟨t, p, q⟩ := DE.elim h
  exact ⟨fun pins s σ H Q I ⟨F, Hf, ρ, R, z⟩ => p.run pins s σ H Q I (q F σ H Hf ρ Q R z)⟩
def tDT (G : Gx) (W : WX) (f : BX) : TT := fun σ H Q => ∃ (F : Fr) (Hf : Hp) (ρ : PEnv), Rep G F σ H Hf ρ ∧ PostE G F W σ Hf (fun b H' _ _ => Q b H') (f ρ)
theorem DTs.pts {f : BX} (h : DTs G X W ifs f) : PTs X ifs (tDT G W f) := by
  obtain ⟨t, p, q⟩ := h
  exact ⟨fun pins s σ H Q I ⟨F, Hf, ρ, R, z⟩ => p.run pins s σ H Q I (q F σ H Hf ρ Q R z)⟩
def tDG (G : Gx) (idx : List Nat) (g : TGf) : TG := fun v σ H Q => ∃ (F : Fr) (Hf : Hp) (ρ ρ' : PEnv) (d : D), Rep G F σ H Hf ρ ∧ Rp G Hf v d ∧ g d ρ = some ρ' ∧
  ∀ σ', Rep G F σ' H Hf ρ' → (∀ vs, (∀ i ∈ idx, i ∈ vs) → wipe σ' vs = wipe σ vs) → Q σ' H
theorem DG.pg {idx : List Nat} {g : TGf} (h : DG G X tg idx g) : PG X tg (tDG G idx g) := by
  obtain ⟨t, p, q⟩ := h
  exact ⟨fun pins s σ H v u Q I r ⟨F, Hf, ρ, ρ', d, R, rp, e, z⟩ => p.run pins s σ H v u Q I r (q F σ H Hf ρ ρ' v d Q R rp e z)⟩
/-- what is wanted of a new list -/
abbrev Qnew (G : Gx) (Q : VK) : List D → Hp → Hp → PEnv → Prop := fun ds H' Hf' _ => ∀ (p : Addr) (vs : List V), H' p = none → RpL G Hf' vs ds → Q (.ref p) (upd H' p (.lst vs))
theorem lc_read {own : List (Str × Nat)} {idx : List Nat} {it : PEnv → Rs (List D)} {g : TGf} {cb : BX} {fe : EX} {wi : TI} (q1 : ∀ (F : Fr) (σ : L2.St) (H Hf : Hp) (ρ : PEnv) (R : It → Hp → Prop), Rep G F σ H Hf ρ →
    PostE G F W σ Hf (fun ds H' Hf' _ => ∀ J, WalkD G J ds Hf' → R J H') (it ρ) → wi σ H R) (hix : ∀ i ∈ idx, i ∈ own.map (·.2)) {F : Fr} {σ : L2.St} {H Hf : Hp} {ρ : PEnv} {Q : VK} (R : Rep G F σ H Hf ρ) (p : PostE G F W σ Hf (Qnew G Q) (fLc it (own.map (·.2)) g cb fe ρ)) :
    tLc wi (tDG G idx g) (tDT G W0 cb) (tDE G W0 fe) (own.map (·.2)) σ H Q := by
  generalize hvs : own.map (·.2) = vs at *
  refine q1 F σ H Hf ρ _ R ((PostE.bind p).imp fun ds H1 Hf1 ρ1 _ R1 s1 p J w Dn nD => ?_)
  by_cases hcnd : ¬ (noMut ρ1 vs = true ∧ ds.length ≤ sizeLine)
  · rw [if_neg hcnd] at p; exact p.elim
  have hcnd := Decidable.not_not.mp hcnd
  rw [if_pos hcnd] at p
  obtain ⟨nm, hsz⟩ := hcnd
  obtain ⟨nf0, np, _⟩ := R1.newFree nD
  let Pv : Nat → Hp → Prop := fun i H => ∃ (Hf' : Hp) (ρ' : PEnv) (av : List V) (ad : List D), Same Hf1 Hf' ∧ Rep G F σ H Hf' ρ' ∧ H Dn = some (.lst av) ∧ Hf' Dn = none ∧
    (∀ (j : Nat) (c : Cell) (es : Mu), ρ'[j]? = some c → c.mu? = some es → σ[j]? ≠ some (some (.ref Dn))) ∧ RpL G Hf' av ad ∧ ad.length ≤ i ∧ noMut ρ' vs = true ∧
    PostE G F W σ Hf' (fun ds H' Hf' _ => ∀ (p : Addr) (vs : List V), H' p = none → RpL G Hf' vs ds → Q (.ref p) (upd H' p (.lst vs))) ((lcD vs g cb fe (ds.drop i) ρ').bind fun ys ρ'' => .ok (ad ++ ys) ρ'')
  have h0 : Pv 0 (upd H1 Dn (.lst [])) := by
    refine ⟨Hf1, ρ1, [], [], Same.refl _, R1.side nD _, upd_same, nf0, (R1.newFree nD).2.2, .nil, Nat.le_refl _, nm, ?_⟩
    rw [List.drop_zero]
    have e : ((lcD vs g cb fe ds ρ1).bind fun ys ρ'' => Rs.ok ([] ++ ys) ρ'') = lcD vs g cb fe ds ρ1 := by
      cases lcD vs g cb fe ds ρ1 <;> rfl
    rw [e]
    exact p
  refine ⟨fun i m H => m = ds.length - i ∧ i ≤ ds.length ∧ Pv i H, ⟨_, rfl, Nat.zero_le _, h0⟩, ?_⟩
  rintro i m H2 ⟨rfl, hi, Hf2, ρ2, av, ad, s2, R2, hD, nfD, nmD, ra, la, nm2, p⟩
  obtain ⟨w1, w2, w3⟩ := w F σ H2 Hf2 ρ2 i R2 s2
  by_cases hlt : i < ds.length
  · refine .inr ⟨w1 hlt, fun H => i + 1 ≤ ds.length ∧ Pv (i + 1) H, fun H' h => ⟨ds.length - (i + 1), by omega, rfl, h⟩, fun x H3 y => ?_⟩
    have Rg := R2.guard hD nfD nmD
    obtain ⟨_, _, w3⟩ := w _ σ H2 Hf2 ρ2 i Rg s2
    obtain ⟨Hf3, d, R3, s3, hd, r⟩ := w3 x H3 hlt y
    have e1 : ds.drop i = d :: ds.drop (i + 1) := by
      rw [List.drop_eq_getElem_cons hlt]
      rw [List.getElem?_eq_getElem hlt] at hd
      rw [Option.some.inj hd]
    rw [e1] at p
    have p := p.mono s3
    obtain ⟨R3u, _, _, _⟩ := R3.unguard np
    unfold lcD at p
    cases hgd : g d (wipeE ρ2 vs) with
    | none => rw [hgd] at p; exact p.elim
    | some ρ3 =>
      rw [hgd] at p
      refine ⟨_, Hf3, wipeE ρ2 vs, ρ3, d, R3.wipe vs, r, hgd, fun σ3 R4 hw => ⟨(hw vs hix).trans (by
        have ww : ∀ us : List Nat, (∀ u ∈ us, u ∈ vs) → wipe (wipe σ us) vs = wipe σ vs := by
          intro us
          induction us with
          | nil => intro _; rfl
          | cons u us ih =>
            intro h
            show wipe ((wipe σ us).set u none) vs = _
            rw [wipe_set (h u List.mem_cons_self)]
            exact ih fun z hz => h z (List.mem_cons_of_mem _ hz)
        exact ww vs fun _ h => h), ?_⟩⟩
      have hw3 : wipe σ3 vs = wipe σ vs := (hw vs hix).trans (by
        have ww : ∀ us : List Nat, (∀ u ∈ us, u ∈ vs) → wipe (wipe σ us) vs = wipe σ vs := by
          intro us
          induction us with
          | nil => intro _; rfl
          | cons u us ih =>
            intro h
            show wipe ((wipe σ us).set u none) vs = _
            rw [wipe_set (h u List.mem_cons_self)]
            exact ih fun z hz => h z (List.mem_cons_of_mem _ hz)
        exact ww vs fun _ h => h)
      refine ⟨_, Hf3, ρ3, R4, ?_⟩
      have p : PostE G F W σ Hf3 (Qnew G Q) (((cb ρ3).nx.bind fun b ρ2' => if b = true then (fe ρ2').nx.bind fun y ρ3 => (lcD vs g cb fe (ds.drop (i + 1)) (backE ρ3 ρ2 vs)).bind fun ys ρ4 => .ok (y :: ys) ρ4 else lcD vs g cb fe (ds.drop (i + 1)) (backE ρ2' ρ2 vs)).bind fun ys ρ'' => .ok (ad ++ ys) ρ'') := p
      cases hcb : cb ρ3 with
      | exc C f' d' ρ4 => rw [hcb] at p; exact p.elim
      | bad => rw [hcb] at p; exact p.elim
      | ok b ρ4 =>
        rw [hcb] at p
        intro H5 Hf5 R5 s5
        obtain ⟨R5u, hD5, nf5, nm5⟩ := R5.unguard np
        have p := p.mono s5
        by_cases hb : b = true
        · rw [if_pos hb]
          refine ⟨_, Hf5, ρ4, R5, ?_⟩
          have p : PostE G F W σ Hf5 (Qnew G Q) (((fe ρ4).nx.bind fun y ρ3 => (lcD vs g cb fe (ds.drop (i + 1)) (backE ρ3 ρ2 vs)).bind fun ys ρ4 => .ok (y :: ys) ρ4).bind fun ys ρ'' => .ok (ad ++ ys) ρ'') := by rw [Rs.nx_ok, Rs.bind_ok, if_pos hb] at p; exact p
          cases hfe : fe ρ4 with
          | exc C f' d' ρ5 => rw [hfe] at p; exact p.elim
          | bad => rw [hfe] at p; exact p.elim
          | ok yd ρ5 =>
            rw [hfe] at p
            intro H6 Hf6 R6 s6 yv ry
            obtain ⟨R6u, hD6, nf6, nm6⟩ := R6.unguard np
            have p := p.mono s6
            have s26 : Same Hf2 Hf6 := s3.trans (s5.trans s6)
            have Rb := R2.back R6u s26 hw3 nm2
            refine ⟨av, hD6, by rw [ra.len]; omega, hlt, Hf6, backE ρ5 ρ2 vs, av ++ [yv], ad ++ [yd], s2.trans s26, ?_, upd_same, nf6, ?_, (ra.mono s26).app (.cons ry .nil), by rw [List.length_append, List.length_singleton]; omega, ?_, ?_⟩
            · refine Rb.poke ⟨_, hD6⟩ nf6 np fun j c es e1 e2 => ?_
              rcases backE_at e1 with ⟨h1, h2⟩ | ⟨h1, h2⟩
              · have := List.all_eq_true.mp nm2 j h1
                rw [← h2, e2] at this
                cases this
              · have := nm6 j c es h2 e2
                rw [← wipe_out (σ := σ) h1, ← hw3, wipe_out h1]
                exact this
            · intro j c es e1 e2
              rcases backE_at e1 with ⟨h1, h2⟩ | ⟨h1, h2⟩
              · have := List.all_eq_true.mp nm2 j h1
                rw [← h2, e2] at this
                cases this
              · have := nm6 j c es h2 e2
                rw [← wipe_out (σ := σ) h1, ← hw3, wipe_out h1]
                exact this
            · refine List.all_eq_true.mpr fun v hv => ?_
              have := List.all_eq_true.mp nm2 v hv
              cases hc' : (backE ρ5 ρ2 vs)[v]? with
              | none => rw [List.getD_eq_getElem?_getD, hc']; rfl
              | some c =>
                rcases backE_at hc' with ⟨_, h2⟩ | ⟨h1, _⟩
                · rw [List.getD_eq_getElem?_getD, hc']; show (c.mu?).isNone = true; rw [h2]; exact this
                · exact absurd hv h1
            · have e2 : (((Rs.ok yd ρ5).nx.bind fun y ρ3 => (lcD vs g cb fe (ds.drop (i + 1)) (backE ρ3 ρ2 vs)).bind fun ys ρ4 => .ok (y :: ys) ρ4).bind fun ys ρ'' => Rs.ok (ad ++ ys) ρ'') = ((lcD vs g cb fe (ds.drop (i + 1)) (backE ρ5 ρ2 vs)).bind fun ys ρ'' => Rs.ok (ad ++ [yd] ++ ys) ρ'') := by
                rw [Rs.nx_ok, Rs.bind_ok]
                cases lcD vs g cb fe (ds.drop (i + 1)) (backE ρ5 ρ2 vs) with
                | ok ys ρ6 => show Rs.ok (ad ++ yd :: ys) ρ6 = Rs.ok (ad ++ [yd] ++ ys) ρ6; rw [List.append_assoc]; rfl
                | exc _ _ _ _ => rfl
                | bad => rfl
              rw [e2] at p
              exact p
        · rw [if_neg hb]
          have p : PostE G F W σ Hf5 (Qnew G Q) ((lcD vs g cb fe (ds.drop (i + 1)) (backE ρ4 ρ2 vs)).bind fun ys ρ'' => .ok (ad ++ ys) ρ'') := by rw [Rs.nx_ok, Rs.bind_ok, if_neg hb] at p; exact p
          have s25 : Same Hf2 Hf5 := s3.trans s5
          have Rb := R2.back R5u s25 hw3 nm2
          refine ⟨hlt, Hf5, backE ρ4 ρ2 vs, av, ad, s2.trans s25, Rb, hD5, nf5, ?_, ra.mono s25, by omega, ?_, p⟩
          · intro j c es e1 e2
            rcases backE_at e1 with ⟨h1, h2⟩ | ⟨h1, h2⟩
            · have := List.all_eq_true.mp nm2 j h1
              rw [← h2, e2] at this
              cases this
            · have := nm5 j c es h2 e2
              rw [← wipe_out (σ := σ) h1, ← hw3, wipe_out h1]
              exact this
          · refine List.all_eq_true.mpr fun v hv => ?_
            have := List.all_eq_true.mp nm2 v hv
            cases hc' : (backE ρ4 ρ2 vs)[v]? with
            | none => rw [List.getD_eq_getElem?_getD, hc']; rfl
            | some c =>
              rcases backE_at hc' with ⟨_, h2⟩ | ⟨h1, _⟩
              · rw [List.getD_eq_getElem?_getD, hc']; show (c.mu?).isNone = true; rw [h2]; exact this
              · exact absurd hv h1
  · have e : i = ds.length := by omega
    subst e
    refine .inl ⟨w2, ?_⟩
    rw [List.drop_length] at p
    have p : ∀ H' Hf', Rep G F σ H' Hf' ρ2 → Same Hf2 Hf' → ∀ (p : Addr) (vs : List V), H' p = none → RpL G Hf' vs (ad ++ []) → Q (.ref p) (upd H' p (.lst vs)) := p
    rw [List.append_nil] at p
    have q := p (hid H2 Dn) Hf2 (R2.hide ⟨_, hD⟩ nfD np nmD) (Same.refl _) Dn av hid_same ra
    rw [upd_hid hD] at q
    exact q
theorem df_lc {scope : Scope} {own : List (Str × Nat)} {idx : List Nat} {it : PEnv → Rs (List D)} {g : TGf} {cb : BX} {fe : EX} (hi : DI G X W tg iter it) (ok : BlkOk X.N X.env.scope scope own)
    (hg : ∀ (s : Shared) (H : Hp) (C : Addr) (cl : List (Str × Addr)) (fp : List Addr), DG G (X.blk s H scope (compEnvC scope cl C X.env) fp) tg idx g)
    (ht : ∀ (s : Shared) (H : Hp) (C : Addr) (cl : List (Str × Addr)) (fp : List Addr), DTs G (X.blk s H scope (compEnvC scope cl C X.env) fp) W0 ifs cb)
    (he : ∀ (s : Shared) (H : Hp) (C : Addr) (cl : List (Str × Addr)) (fp : List Addr), DE G (X.blk s H scope (compEnvC scope cl C X.env) fp) W0 elt fe) (hN : X.N.Nodup) (hix : ∀ i ∈ idx, i ∈ own.map (·.2) := by decide) (hc : X.calm = true := by rfl) (hs : ∀ x, foldedSetIterable iter X.env x = pure x := by intro _; rfl) :
    DF G X W (.ListComp elt [⟨tg, iter, ifs, 0⟩] scope pos) (fLc it (own.map (·.2)) g cb fe) := by
  obtain ⟨wi, p1, q1⟩ := hi
  exact ⟨_, pe_lc hc hN p1 ok (fun s H C cl fp => (hg s H C cl fp).pg) (fun s H C cl fp => (ht s H C cl fp).pts) (fun s H C cl fp => DO.pe (he s H C cl fp)) hs, fun F σ H Hf ρ Q R p => lc_read q1 hix R p⟩
/-- x = [..] on one line -/
theorem lc_stmt {scope : Scope} {own : List (Str × Nat)} {idx : List Nat} {it : PEnv → Rs (List D)} {g : TGf} {cb : BX} {fe : EX} {i : Nat} {y : Str} {py spos : Pos} (hi : DI G X W tg iter it) (ok : BlkOk X.N X.env.scope scope own)
    (hg : ∀ (s : Shared) (H : Hp) (C : Addr) (cl : List (Str × Addr)) (fp : List Addr), DG G (X.blk s H scope (compEnvC scope cl C X.env) fp) tg idx g)
    (ht : ∀ (s : Shared) (H : Hp) (C : Addr) (cl : List (Str × Addr)) (fp : List Addr), DTs G (X.blk s H scope (compEnvC scope cl C X.env) fp) W0 ifs cb)
    (he : ∀ (s : Shared) (H : Hp) (C : Addr) (cl : List (Str × Addr)) (fp : List Addr), DE G (X.blk s H scope (compEnvC scope cl C X.env) fp) W0 elt fe) (hN : X.N.Nodup) (hy : X.N[i]? = some y) (hyl : X.env.scope.names.lookup y = some .local)
    (hsw : swapsWith (.ListComp elt [⟨tg, iter, ifs, 0⟩] scope pos) (some (.Name y py)) spos.line X.env = pure true) (hix : ∀ i ∈ idx, i ∈ own.map (·.2)) (hc : X.calm = true) (hs : ∀ x, foldedSetIterable iter X.env x = pure x) :
    ∃ t : TE, PS X (.Assign [.Name y py] (.ListComp elt [⟨tg, iter, ifs, 0⟩] scope pos) spos) (tAsg t (gName i)) ∧ ∀ (F : Fr) (σ : L2.St) (H Hf : Hp) (ρ : PEnv) (Q : VK), Rep G F σ H Hf ρ → PostE G F W σ Hf (Qnew G Q) (fLc it (own.map (·.2)) g cb fe ρ) → t σ H Q := by
  obtain ⟨wi, p1, q1⟩ := hi
  exact ⟨_, ps_setLc (i := i) hc hN hy hyl hsw p1 ok (fun s H C cl fp => (hg s H C cl fp).pg) (fun s H C cl fp => (ht s H C cl fp).pts) (fun s H C cl fp => DO.pe (he s H C cl fp)) hs, fun F σ H Hf ρ Q R p => lc_read q1 hix R p⟩
theorem ds_setLc {scope : Scope} {own : List (Str × Nat)} {idx : List Nat} {it : PEnv → Rs (List D)} {g : TGf} {cb : BX} {fe : EX} {i : Nat} {y : Str} {py spos : Pos} (hi : DI G X W tg iter it) (ok : BlkOk X.N X.env.scope scope own)
    (hg : ∀ (s : Shared) (H : Hp) (C : Addr) (cl : List (Str × Addr)) (fp : List Addr), DG G (X.blk s H scope (compEnvC scope cl C X.env) fp) tg idx g)
    (ht : ∀ (s : Shared) (H : Hp) (C : Addr) (cl : List (Str × Addr)) (fp : List Addr), DTs G (X.blk s H scope (compEnvC scope cl C X.env) fp) W0 ifs cb)
    (he : ∀ (s : Shared) (H : Hp) (C : Addr) (cl : List (Str × Addr)) (fp : List Addr), DE G (X.blk s H scope (compEnvC scope cl C X.env) fp) W0 elt fe) (hN : X.N.Nodup) (hsw : swapsWith (.ListComp elt [⟨tg, iter, ifs, 0⟩] scope pos) (some (.Name y py)) spos.line X.env = pure true) (hy : X.N[i]? = some y := by rfl) (hyl : X.env.scope.names.lookup y = some .local := by rfl)
    (hix : ∀ i ∈ idx, i ∈ own.map (·.2) := by decide) (hc : X.calm = true := by rfl) (hs : ∀ x, foldedSetIterable iter X.env x = pure x := by intro _; rfl) :
    DS G X W (.Assign [.Name y py] (.ListComp elt [⟨tg, iter, ifs, 0⟩] scope pos) spos) (sSet i (eFr (fLc it (own.map (·.2)) g cb fe))) := by
  obtain ⟨t, p1, q1⟩ := lc_stmt hi ok hg ht he hN hy hyl hsw hix hc hs
  refine ⟨_, p1, fun F σ H Hf ρ En R p => q1 F σ H Hf ρ _ R ((PostE.bind (PostS.of p)).imp fun ds H1 Hf1 ρ1 _ R1 s1 p a vs na r => ?_)⟩
  obtain ⟨R', s', r'⟩ := R1.laid na r
  have p := p _ _ R' s'
  dsimp only at p
  split at p
  · exact p _ _ _ (R'.set i r') (Same.refl _)
  · exact p.elim
/-- a list of one's own is given away -/
def fOwn (i : Nat) : PEnv → Rs (List D) := fun ρ => match ρ[i]? with
  | some (.own (.lst ds)) => .ok ds (ρ.set i .no)
  | _ => .bad
theorem Rep.forget {F : Fr} {σ : L2.St} {H Hf : Hp} {ρ : PEnv} (R : Rep G F σ H Hf ρ) (i : Nat) : Rep G F σ H Hf (ρ.set i .no) := by
  refine ⟨by rw [List.length_set]; exact R.len, R.sub, fun j c e => ?_, fun j k cj ck ds es p ej ek mj mk sj sk => ?_, R.prot, R.tabs⟩
  · rcases set_at e with ⟨rfl, rfl, hl⟩ | ⟨ne, e⟩
    · trivial
    · exact R.cell j c e
  · rcases set_at ej with ⟨rfl, rfl, _⟩ | ⟨n1, ej⟩
    · cases mj
    rcases set_at ek with ⟨rfl, rfl, _⟩ | ⟨n2, ek⟩
    · cases mk
    exact R.apart j k cj ck ds es p ej ek mj mk sj sk
theorem df_own {i : Nat} {y : Str} (hN : X.N[i]? = some y := by rfl) (hv : Vis X.env.scope y := by first | exact .inl rfl | exact .inr (.inl rfl) | exact .inr (.inr rfl)) (hd : (y == ("__debug__" : Str)) = false := by decide) (hcd : (y == ("__classdict__" : Str)) = false := by decide) : DF G X W (.Name y pos) (fOwn i) := by
  refine ⟨_, pe_var (i := i) hN hv hd hcd, fun F σ H Hf ρ Q R p => ?_⟩
  unfold fOwn at p
  split at p
  · rename_i ds hc
    obtain ⟨a, m⟩ := R.cell i _ hc
    obtain ⟨o0, ha, r0⟩ := m.ls
    obtain ⟨vs, rfl, r⟩ := r0.lst
    have nm : ∀ (j : Nat) (c : Cell) (es : Mu), (ρ.set i Cell.no)[j]? = some c → c.mu? = some es → σ[j]? ≠ some (some (.ref a)) := fun j c es e1 e2 h => by
      rcases set_at e1 with ⟨rfl, rfl, _⟩ | ⟨ne, e1⟩
      · cases e2
      · exact ne (R.apart i j _ c _ es a hc e1 rfl e2 m.at_ h)
    have q := p (hid H a) Hf ((R.forget i).hide ⟨_, ha⟩ m.nf m.np nm) (Same.refl _) a vs hid_same r
    rw [upd_hid ha] at q
    exact ⟨_, m.at_, q⟩
  · exact p.elim
end
end Spk
namespace Spk
open PySem PySem.Spec PyProof.Rows L2
/-! ### what a def promises -/
def spQ {α : Type} (G : Gx) (n : Nat) (Qr : VK → α → Hp → Hp → PEnv → Prop) (fn : List Cell → Rs α) : Sp := fun vs H Q E => ∃ (F : Fr) (Hf : Hp) (cs : List Cell), vs.length = n ∧ Rep G F (vs.map some) H Hf cs ∧
  PostE G F (fun c d _ H' => E c d H') (vs.map some) Hf (Qr Q) (fn cs)
/-- frozen data is given back -/
abbrev Qdat (G : Gx) (Q : VK) : D → Hp → Hp → PEnv → Prop := fun d H' Hf' _ => ∀ v, Rp G Hf' v d → Q v H'
abbrev spD (G : Gx) (n : Nat) (fn : List Cell → Rs D) : Sp := spQ G n (Qdat G) fn
/-- a new list is given back -/
abbrev spF (G : Gx) (n : Nat) (fn : List Cell → Rs (List D)) : Sp := spQ G n (Qnew G) fn
theorem spQ_len {α : Type} {G : Gx} {n : Nat} {Qr : VK → α → Hp → Hp → PEnv → Prop} {fn : List Cell → Rs α} {ps : List Str} (h : n = ps.length) : ∀ vs H Q E, spQ G n Qr fn vs H Q E → vs.length = ps.length := fun vs H Q E ⟨_, _, _, l, _⟩ => l.trans h
/-- the parameters' cells behind the body: a list that was lent has what stands there now -/
def finC : List Cell → PEnv → Option (List Cell)
  | [], _ => some []
  | .bor _ :: cs, .bor ds :: ρ => (finC cs ρ).map (.bor ds :: ·)
  | .val d :: cs, _ :: ρ => (finC cs ρ).map (.val d :: ·)
  | _, _ => none
/-- a def by its body: m slots -/
def fnB (m : Nat) (f : SX) : List Cell → Rs D := fun cs => match f (cs ++ List.replicate (m - cs.length) .no) with
  | .nx ρ => (match finC cs ρ with
    | some es => .ok .non es
    | none => .bad)
  | .rt d ρ => (match finC cs ρ with
    | some es => .ok d es
    | none => .bad)
  | .exc C x d ρ => (match finC cs ρ with
    | some es => .exc C x d es
    | none => .bad)
  | _ => .bad
/-- a def that gives back new lists alone -/
def fnBF (m : Nat) (f : SX) : List Cell → Rs (List D) := fun cs => match f (cs ++ List.replicate (m - cs.length) .no) with
  | .rf ds ρ => (match finC cs ρ with
    | some es => .ok ds es
    | none => .bad)
  | .exc C x d ρ => (match finC cs ρ with
    | some es => .exc C x d es
    | none => .bad)
  | _ => .bad
section
variable {G : Gx} {F : Fr} {σ : L2.St} {H Hf H' Hf' : Hp} {ρ ρ' : PEnv} {cs es : List Cell} {vs : List V}
theorem finC_at : ∀ {cs : List Cell} {ρ : PEnv} {es : List Cell}, finC cs ρ = some es → es.length = cs.length ∧ ∀ (i : Nat) (c : Cell), es[i]? = some c → (∃ d, c = .val d ∧ cs[i]? = some c) ∨ (∃ (ds es : Mu), c = .bor ds ∧ cs[i]? = some (.bor es) ∧ ρ[i]? = some c)
  | [], _, _, h => by cases h; exact ⟨rfl, fun i c e => by simp at e⟩
  | .bor bs :: cs, .bor ds :: ρ, es, h => by
    obtain ⟨es', h1, rfl⟩ := Option.map_eq_some_iff.mp (show (finC cs ρ).map _ = _ from h)
    obtain ⟨l, k⟩ := finC_at h1
    refine ⟨by simp [l], fun i c e => ?_⟩
    cases i with
    | zero => obtain rfl := Option.some.inj (by simpa using e); exact .inr ⟨ds, bs, rfl, rfl, rfl⟩
    | succ i => simpa using k i c (by simpa using e)
  | .val d :: cs, _ :: ρ, es, h => by
    obtain ⟨es', h1, rfl⟩ := Option.map_eq_some_iff.mp (show (finC cs ρ).map _ = _ from h)
    obtain ⟨l, k⟩ := finC_at h1
    refine ⟨by simp [l], fun i c e => ?_⟩
    cases i with
    | zero => obtain rfl := Option.some.inj (by simpa using e); exact .inl ⟨d, rfl, rfl⟩
    | succ i => simpa using k i c (by simpa using e)
  | .no :: _, _, _, h => by simp [finC] at h
  | .exn _ _ _ :: _, _, _, h => by simp [finC] at h
  | .own _ :: _, _, _, h => by simp [finC] at h
  | .bor _ :: _, [], _, h => by simp [finC] at h
  | .bor _ :: _, .no :: _, _, h => by simp [finC] at h
  | .bor _ :: _, .val _ :: _, _, h => by simp [finC] at h
  | .bor _ :: _, .own _ :: _, _, h => by simp [finC] at h
  | .bor _ :: _, .exn _ _ _ :: _, _, h => by simp [finC] at h
  | .val _ :: _, [], _, h => by simp [finC] at h
theorem Rep.fin (R : Rep G F (vs.map some) H Hf cs) (R' : Rep G F σ H' Hf' ρ') (s : Same Hf Hf') (h : finC cs ρ' = some es) : Rep G F (vs.map some) H' Hf' es := by
  obtain ⟨l, k⟩ := finC_at h
  have bo : ∀ i ds, es[i]? = some (.bor ds) → MutOk G F (vs.map some) H' Hf' i ds (F.Bp i) := fun i ds e => by
    rcases k i _ e with ⟨d, z, _⟩ | ⟨d1, d2, z, h1, h2⟩
    · cases z
    · cases z
      have m1 : MutOk G F (vs.map some) H Hf i d2 (F.Bp i) := R.cell i _ h1
      have m2 : MutOk G F σ H' Hf' i ds (F.Bp i) := R'.cell i _ h2
      exact ⟨m1.at_, m2.nf, m2.np, m2.ls⟩
  refine ⟨R.len.trans l.symm, R'.sub, fun i c e => ?_, fun i j ci cj ds ds' p ei ej mi mj si sj => ?_, R'.prot, R'.tabs⟩
  · rcases k i c e with ⟨d, rfl, h1⟩ | ⟨ds, ds', rfl, h1, h2⟩
    · obtain ⟨v, h2, r⟩ := R.cell i _ h1
      exact ⟨v, h2, r.mono s⟩
    · exact bo i ds e
  · have old : ∀ (i : Nat) (c : Cell) (ds : Mu), es[i]? = some c → c.mu? = some ds → ∃ (c' : Cell) (ds' : Mu), cs[i]? = some c' ∧ c'.mu? = some ds' := fun i c ds e m => by
      rcases k i c e with ⟨d, rfl, h1⟩ | ⟨d1, d2, rfl, h1, h2⟩
      · cases m
      · exact ⟨_, _, h1, rfl⟩
    obtain ⟨c1, d1, a1, a2⟩ := old i ci ds ei mi
    obtain ⟨c2, d2, b1, b2⟩ := old j cj ds' ej mj
    exact R.apart i j c1 c2 d1 d2 p a1 b1 a2 b2 si sj
theorem Rep.pad (R : Rep G F σ H Hf ρ) (n : Nat) : Rep G F (σ ++ List.replicate n none) H Hf (ρ ++ List.replicate n .no) := by
  have low : ∀ {i : Nat} {c : Cell}, (ρ ++ List.replicate n Cell.no)[i]? = some c → (i < ρ.length ∧ ρ[i]? = some c) ∨ c = .no := fun {i c} e => by
    rw [List.getElem?_append] at e
    split at e
    · exact .inl ⟨by assumption, e⟩
    · rw [List.getElem?_replicate] at e
      split at e
      · exact .inr (Option.some.inj e).symm
      · cases e
  have sl : ∀ {i : Nat}, i < ρ.length → (σ ++ List.replicate n none)[i]? = σ[i]? := fun {i} h => List.getElem?_append_left (by rw [R.len]; exact h)
  refine ⟨by simp [R.len], R.sub, fun i c e => ?_, fun i j ci cj ds es p ei ej mi mj si sj => ?_, R.prot, R.tabs⟩
  · rcases low e with ⟨hl, e⟩ | rfl
    · have k := R.cell i c e
      have mk : ∀ ds p, MutOk G F σ H Hf i ds p → MutOk G F (σ ++ List.replicate n none) H Hf i ds p := fun ds p m => ⟨by rw [sl hl]; exact m.at_, m.nf, m.np, m.ls⟩
      cases c with
      | no => trivial
      | val d => obtain ⟨v, h, r⟩ := k; exact ⟨v, by rw [sl hl]; exact h, r⟩
      | own ds => obtain ⟨p, m⟩ := k; exact ⟨p, mk _ _ m⟩
      | bor ds => exact mk _ _ k
      | exn C f d => obtain ⟨a, dd, v, h0, h1, h2, r⟩ := k; exact ⟨a, dd, v, h0, by rw [sl hl]; exact h1, h2, r⟩
    · trivial
  · rcases low ei with ⟨h1, e1⟩ | rfl
    · rcases low ej with ⟨h2, e2⟩ | rfl
      · rw [sl h1] at si
        rw [sl h2] at sj
        exact R.apart i j ci cj ds es p e1 e2 mi mj si sj
      · cases mj
    · cases mi
theorem body_of {X : Cx} {W : WX} {body : List Stmt} {f : SX} {n m : Nat} {N : List Str} {Q : VK} {E : XK} (h : DSs G X W body f) (hN : N.length = m) (hW : ∀ c d σ H, E c d H → W c d σ H) (sp : spD G n (fnB m f) vs H Q E) :
    ∃ t, PSs X body t ∧ t { nx := fun _ H' => Q .non H', rt := Q } (L2.start N vs) H := by
  obtain ⟨t, p, q⟩ := h
  obtain ⟨F, Hf, cs, hl, R, po⟩ := sp
  refine ⟨t, p, ?_⟩
  have lc : vs.length = cs.length := by have := R.len; rwa [List.length_map] at this
  have es : L2.start N vs = vs.map some ++ List.replicate (m - cs.length) none := by
    unfold L2.start
    rw [hN, lc]
  rw [es]
  refine q F _ H Hf _ _ (R.pad _) ?_
  unfold fnB at po
  cases hf : f (cs ++ List.replicate (m - cs.length) .no) with
  | nx ρ =>
    rw [hf] at po
    cases hfi : finC cs ρ with
    | none => simp only [hfi] at po; exact po.elim
    | some es =>
      simp only [hfi] at po
      exact fun σ' H' Hf' R' s => po H' Hf' (R.fin R' s hfi) s .non .non
  | rt d ρ =>
    rw [hf] at po
    cases hfi : finC cs ρ with
    | none => simp only [hfi] at po; exact po.elim
    | some es =>
      simp only [hfi] at po
      exact fun v σ' H' Hf' R' s r => po H' Hf' (R.fin R' s hfi) s v r
  | exc C x d ρ =>
    rw [hf] at po
    cases hfi : finC cs ρ with
    | none => simp only [hfi] at po; exact po.elim
    | some es =>
      simp only [hfi] at po
      exact fun v dd σ' H' Hf' R' s r hd => hW _ _ _ _ (po v dd H' Hf' (R.fin R' s hfi) s r hd)
  | rf ds ρ => rw [hf] at po; exact po.elim
  | bk ρ => rw [hf] at po; exact po.elim
  | ct ρ => rw [hf] at po; exact po.elim
  | bad => rw [hf] at po; exact po.elim
theorem body_ofF {X : Cx} {W : WX} {body : List Stmt} {f : SX} {n m : Nat} {N : List Str} {Q : VK} {E : XK} (h : DSs G X W body f) (hN : N.length = m) (hW : ∀ c d σ H, E c d H → W c d σ H) (sp : spF G n (fnBF m f) vs H Q E) :
    ∃ t, PSs X body t ∧ t { nx := fun _ H' => Q .non H', rt := Q } (L2.start N vs) H := by
  obtain ⟨t, p, q⟩ := h
  obtain ⟨F, Hf, cs, hl, R, po⟩ := sp
  refine ⟨t, p, ?_⟩
  have lc : vs.length = cs.length := by have := R.len; rwa [List.length_map] at this
  have es : L2.start N vs = vs.map some ++ List.replicate (m - cs.length) none := by
    unfold L2.start
    rw [hN, lc]
  rw [es]
  refine q F _ H Hf _ _ (R.pad _) ?_
  unfold fnBF at po
  cases hf : f (cs ++ List.replicate (m - cs.length) .no) with
  | rf ds ρ =>
    rw [hf] at po
    cases hfi : finC cs ρ with
    | none => simp only [hfi] at po; exact po.elim
    | some es =>
      simp only [hfi] at po
      exact fun a ws σ' H' Hf' R' s na r => po H' Hf' (R.fin R' s hfi) s a ws na r
  | exc C x d ρ =>
    rw [hf] at po
    cases hfi : finC cs ρ with
    | none => simp only [hfi] at po; exact po.elim
    | some es =>
      simp only [hfi] at po
      exact fun v dd σ' H' Hf' R' s r hd => hW _ _ _ _ (po v dd H' Hf' (R.fin R' s hfi) s r hd)
  | nx ρ => rw [hf] at po; exact po.elim
  | rt d ρ => rw [hf] at po; exact po.elim
  | bk ρ => rw [hf] at po; exact po.elim
  | ct ρ => rw [hf] at po; exact po.elim
  | bad => rw [hf] at po; exact po.elim
/-- a def that lets nothing out -/
def fnN {α : Type} (fn : List Cell → Rs α) : List Cell → Rs α := fun cs => (fn cs).nx
theorem spQ_nx {α : Type} {n : Nat} {Qr : VK → α → Hp → Hp → PEnv → Prop} {fn : List Cell → Rs α} {Q : VK} {E : XK} (h : spQ G n Qr (fnN fn) vs H Q E) : spQ G n Qr fn vs H Q E0 := by
  obtain ⟨F, Hf, cs, hl, R, po⟩ := h
  exact ⟨F, Hf, cs, hl, R, PostE.nx po⟩
theorem body_ofN {X : Cx} {body : List Stmt} {f : SX} {n m : Nat} {N : List Str} {Q : VK} {E : XK} (h : DSs G X W0 body f) (hN : N.length = m) (sp : spD G n (fnN (fnB m f)) vs H Q E) :
    ∃ t, PSs X body t ∧ t { nx := fun _ H' => Q .non H', rt := Q } (L2.start N vs) H := body_of h hN (fun _ _ _ _ z => z) (spQ_nx sp)
theorem body_ofNF {X : Cx} {body : List Stmt} {f : SX} {n m : Nat} {N : List Str} {Q : VK} {E : XK} (h : DSs G X W0 body f) (hN : N.length = m) (sp : spF G n (fnN (fnBF m f)) vs H Q E) :
    ∃ t, PSs X body t ∧ t { nx := fun _ H' => Q .non H', rt := Q } (L2.start N vs) H := body_ofF h hN (fun _ _ _ _ z => z) (spQ_nx sp)
end
/-! ### a call -/
def Arg.cell (ρ : PEnv) : Arg → Option Cell
  | .val d => some (.val d)
  | .sl i => (ρ[i]?.bind Cell.mu?).map .bor
def cells (ρ : PEnv) : List Arg → Option (List Cell)
  | [] => some []
  | a :: as => (a.cell ρ).bind fun c => (cells ρ as).map (c :: ·)
def sls : List Arg → List Nat
  | [] => []
  | .val _ :: as => sls as
  | .sl i :: as => i :: sls as
/-- the lists that were lent have what the callee left -/
def wb : List Arg → List Cell → PEnv → Option PEnv
  | [], _, ρ => some ρ
  | .val _ :: as, _ :: cs, ρ => wb as cs ρ
  | .sl i :: as, .bor ds :: cs, ρ => (ρ[i]?).bind fun c => wb as cs (ρ.set i (c.put ds))
  | _, _, _ => none
def appF {α : Type} (n : Nat) (fn : List Cell → Rs α) (dfl : List D) (as : List Arg) (ρ : PEnv) : Rs α :=
  if as.length + dfl.length = n ∧ (sls as).Nodup then
    match cells ρ as with
    | none => .bad
    | some cs => match fn (cs ++ dfl.map .val) with
      | .ok d es => Rs.lift ((wb as es ρ).map fun ρ2 => (d, ρ2)) ρ |>.bind fun p _ => .ok p.1 p.2
      | .exc C f d es => (match wb as es ρ with
        | some ρ2 => .exc C f d ρ2
        | none => .bad)
      | .bad => .bad
  else .bad
section
variable {G : Gx} {F : Fr} {σ : L2.St} {H Hf H' Hf' : Hp} {ρ ρ2 : PEnv}
theorem ArgsOk.at_ : ∀ {vs : List V} {as : List Arg}, ArgsOk G σ Hf vs as → ∀ {k : Nat} {a : Arg}, as[k]? = some a → ∃ v, vs[k]? = some v ∧ ArgOk G σ Hf v a
  | _, _, .nil, _, _, e => by simp at e
  | _, _, .cons h t, 0, a, e => by obtain rfl := Option.some.inj (by simpa using e); exact ⟨_, rfl, h⟩
  | _, _, .cons h t, k + 1, a, e => by
    obtain ⟨v, h1, h2⟩ := ArgsOk.at_ t (k := k) (a := a) (by simpa using e)
    exact ⟨v, by simpa using h1, h2⟩
theorem ArgsOk.len : ∀ {vs : List V} {as : List Arg}, ArgsOk G σ Hf vs as → vs.length = as.length
  | _, _, .nil => rfl
  | _, _, .cons _ t => congrArg (· + 1) (ArgsOk.len t)
theorem cells_at : ∀ {as : List Arg} {cs : List Cell}, cells ρ as = some cs → cs.length = as.length ∧ ∀ (k : Nat) (c : Cell), cs[k]? = some c → (∃ d, c = .val d ∧ as[k]? = some (.val d)) ∨ (∃ i ds c', c = .bor ds ∧ as[k]? = some (.sl i) ∧ ρ[i]? = some c' ∧ c'.mu? = some ds)
  | [], _, h => by cases h; exact ⟨rfl, fun k c e => by simp at e⟩
  | a :: as, cs, h => by
    obtain ⟨c0, h1, h2⟩ := Option.bind_eq_some_iff.mp (show (a.cell ρ).bind _ = _ from h)
    obtain ⟨cs', h3, rfl⟩ := Option.map_eq_some_iff.mp h2
    obtain ⟨l, k⟩ := cells_at h3
    refine ⟨by simp [l], fun i c e => ?_⟩
    cases i with
    | zero =>
      obtain rfl := Option.some.inj (by simpa using e)
      cases a with
      | val d => cases h1; exact .inl ⟨d, rfl, rfl⟩
      | sl i =>
        obtain ⟨ds, h4, rfl⟩ := Option.map_eq_some_iff.mp (show (ρ[i]?.bind Cell.mu?).map Cell.bor = _ from h1)
        obtain ⟨c', h5, h6⟩ := Option.bind_eq_some_iff.mp h4
        exact .inr ⟨i, ds, c', rfl, rfl, h5, h6⟩
    | succ i => simpa using k i c (by simpa using e)
theorem sls_mem : ∀ {as : List Arg} {i : Nat}, i ∈ sls as ↔ ∃ k : Nat, as[k]? = some (.sl i)
  | [], i => by simp [sls]
  | .val d :: as, i => by
    rw [sls, sls_mem]
    constructor
    · rintro ⟨k, h⟩; exact ⟨k + 1, by simpa using h⟩
    · rintro ⟨k, h⟩
      cases k with
      | zero => simp at h
      | succ k => exact ⟨k, by simpa using h⟩
  | .sl j :: as, i => by
    rw [sls, List.mem_cons, sls_mem]
    constructor
    · rintro (rfl | ⟨k, h⟩)
      · exact ⟨0, rfl⟩
      · exact ⟨k + 1, by simpa using h⟩
    · rintro ⟨k, h⟩
      cases k with
      | zero => left; simpa using h.symm
      | succ k => exact .inr ⟨k, by simpa using h⟩
theorem sls_inj : ∀ {as : List Arg} {i k l : Nat}, (sls as).Nodup → as[k]? = some (.sl i) → as[l]? = some (.sl i) → k = l
  | [], _, _, _, _, h, _ => by simp at h
  | .val d :: as, i, k, l, nd, h1, h2 => by
    cases k with
    | zero => simp at h1
    | succ k =>
      cases l with
      | zero => simp at h2
      | succ l => exact congrArg (· + 1) (sls_inj (as := as) (i := i) nd (by simpa using h1) (by simpa using h2))
  | .sl j :: as, i, k, l, nd, h1, h2 => by
    have nd := List.nodup_cons.mp nd
    cases k with
    | zero =>
      cases l with
      | zero => rfl
      | succ l =>
        have e : j = i := by simpa using h1
        subst e
        exact absurd (sls_mem.mpr ⟨l, by simpa using h2⟩) nd.1
    | succ k =>
      cases l with
      | zero =>
        have e : j = i := by simpa using h2
        subst e
        exact absurd (sls_mem.mpr ⟨k, by simpa using h1⟩) nd.1
      | succ l => exact congrArg (· + 1) (sls_inj (as := as) (i := i) nd.2 (by simpa using h1) (by simpa using h2))
theorem wb_at : ∀ {as : List Arg} {es : List Cell} {ρ ρ2 : PEnv}, (sls as).Nodup → wb as es ρ = some ρ2 → ρ2.length = ρ.length ∧ ∀ (j : Nat) (c : Cell), ρ2[j]? = some c →
    (∃ (k : Nat) (c' : Cell) (ds : Mu), as[k]? = some (.sl j) ∧ es[k]? = some (.bor ds) ∧ ρ[j]? = some c' ∧ c = c'.put ds) ∨ (j ∉ sls as ∧ ρ[j]? = some c)
  | [], _, ρ, _, _, h => by cases h; exact ⟨rfl, fun j c e => .inr ⟨List.not_mem_nil, e⟩⟩
  | .val d :: as, [], _, _, _, h => by simp [wb] at h
  | .val d :: as, e0 :: es, ρ, ρ2, nd, h => by
    obtain ⟨l, k⟩ := wb_at (as := as) (es := es) (ρ := ρ) nd h
    refine ⟨l, fun j c e => ?_⟩
    rcases k j c e with ⟨k, c', ds, h1, h2, h3⟩ | h
    · exact .inl ⟨k + 1, c', ds, by simpa using h1, by simpa using h2, h3⟩
    · exact .inr h
  | .sl i :: as, [], _, _, _, h => by simp [wb] at h
  | .sl i :: as, .no :: es, _, _, _, h => by simp [wb] at h
  | .sl i :: as, .val _ :: es, _, _, _, h => by simp [wb] at h
  | .sl i :: as, .own _ :: es, _, _, _, h => by simp [wb] at h
  | .sl i :: as, .exn _ _ _ :: es, _, _, _, h => by simp [wb] at h
  | .sl i :: as, .bor ds :: es, ρ, ρ2, nd, h => by
    have nd := List.nodup_cons.mp nd
    obtain ⟨c0, h1, h2⟩ := Option.bind_eq_some_iff.mp (show (ρ[i]?).bind _ = _ from h)
    obtain ⟨l, k⟩ := wb_at (as := as) (es := es) nd.2 h2
    refine ⟨by rw [l, List.length_set], fun j c e => ?_⟩
    rcases k j c e with ⟨k, c', ds', h3, h4, h5, h6⟩ | ⟨h3, h4⟩
    · have ne : i ≠ j := fun z => nd.1 (z ▸ sls_mem.mpr ⟨k, h3⟩)
      rw [List.getElem?_set_ne ne] at h5
      exact .inl ⟨k + 1, c', ds', by simpa using h3, by simpa using h4, h5, h6⟩
    · rcases set_at h4 with ⟨rfl, rfl, _⟩ | ⟨ne, h5⟩
      · exact .inl ⟨0, c0, ds, rfl, rfl, h1, rfl⟩
      · exact .inr ⟨fun z => by rcases List.mem_cons.mp z with z | z; exact ne z.symm; exact h3 z, h5⟩
/-- the callee's frame -/
theorem call_in {vs dvs : List V} {as : List Arg} {cs : List Cell} {dfl : List D} (R : Rep G F σ H Hf ρ) (ra : ArgsOk G σ Hf vs as) (hc : cells ρ as = some cs) (nd : (sls as).Nodup) (rd : RpL G Hf dvs dfl) :
    ∃ F', Rep G F' ((vs ++ dvs).map some) H Hf (cs ++ dfl.map .val) ∧ ∀ {H' Hf' : Hp} {es : List Cell} {ρ2 : PEnv}, Rep G F' ((vs ++ dvs).map some) H' Hf' es → Same Hf Hf' → wb as es ρ = some ρ2 → Rep G F σ H' Hf' ρ2 := by
  classical
  obtain ⟨lc, hcs⟩ := cells_at hc
  let passed : Addr → Prop := fun p => ∃ k i : Nat, as[k]? = some (.sl i) ∧ vs[k]? = some (.ref p)
  let Pt' : Hp := fun a => if Hf a = none ∧ ¬ passed a ∧ (∀ ps, H a ≠ some (.tbl ps)) then H a else none
  let Bp' : Nat → Addr := fun k => match (vs ++ dvs)[k]? with
    | some (.ref a) => a
    | _ => 0
  have lv := ra.len
  -- what a lent list is
  have lent : ∀ k i : Nat, as[k]? = some (.sl i) → ∃ p c ds, vs[k]? = some (.ref p) ∧ ρ[i]? = some c ∧ c.mu? = some ds ∧ MutOk G F σ H Hf i ds p := fun k i hk => by
    have hlt : k < as.length := (List.getElem?_eq_some_iff.mp hk).1
    obtain ⟨c0, e0⟩ : ∃ c0, cs[k]? = some c0 := ⟨_, List.getElem?_eq_getElem (by omega)⟩
    rcases hcs k c0 e0 with ⟨d, _, h2⟩ | ⟨i', ds, c', _, h2, h3, h4⟩
    · rw [hk] at h2; cases h2
    · rw [hk] at h2; cases h2
      obtain ⟨p, m⟩ := (R.cell i c' h3).mut h4
      obtain ⟨v, h5, h6⟩ := ra.at_ hk
      have h6 : σ[i]? = some (some v) := h6
      rw [m.at_] at h6
      cases h6
      exact ⟨p, c', ds, h5, h3, h4, m⟩
  have bp : ∀ (k : Nat) (p : Addr), vs[k]? = some (.ref p) → Bp' k = p := fun k p h => by
    have hl : k < vs.length := (List.getElem?_eq_some_iff.mp h).1
    show (match (vs ++ dvs)[k]? with | some (.ref a) => a | _ => 0) = p
    rw [List.getElem?_append_left hl, h]
  have sv : ∀ (k : Nat) (v : V), vs[k]? = some v → ((vs ++ dvs).map some)[k]? = some (some v) := fun k v h => by
    have hl : k < vs.length := (List.getElem?_eq_some_iff.mp h).1
    rw [List.getElem?_map, List.getElem?_append_left hl, h]; rfl
  have npass : ∀ p, passed p → F.Pt p = none ∧ ∀ j cj es, ρ[j]? = some cj → cj.mu? = some es → σ[j]? = some (some (.ref p)) → j ∈ sls as := fun p ⟨k, i, h1, h2⟩ => by
    obtain ⟨p', c, ds, h3, h4, h5, m⟩ := lent k i h1
    rw [h2] at h3
    cases h3
    refine ⟨m.np, fun j cj es e1 e2 e3 => ?_⟩
    have := R.apart i j c cj ds es p h4 e1 h5 e2 m.at_ e3
    subst this
    exact sls_mem.mpr ⟨k, h1⟩
  refine ⟨⟨Pt', Bp'⟩, ⟨?_, R.sub, fun k c e => ?_, fun k l ck cl ds es p ek el mk ml sk sl' => ?_, fun a o e => ?_, ⟨R.tabs.tb, fun a ps e => ?_, R.tabs.nf⟩⟩, fun {H' Hf' es ρ2} R' s hw => ?_⟩
  · rw [List.length_map, List.length_append, List.length_append, List.length_map, lc, lv, rd.len]
  · rw [List.getElem?_append] at e
    split at e
    · rename_i hlt
      rcases hcs k c e with ⟨d, rfl, h2⟩ | ⟨i, ds, c', rfl, h2, h3, h4⟩
      · obtain ⟨v, h5, h6⟩ := ra.at_ h2
        exact ⟨v, sv k v h5, h6⟩
      · obtain ⟨p, c2, ds2, h5, h6, h7, m⟩ := lent k i h2
        rw [h3] at h6; cases h6
        rw [h4] at h7; cases h7
        show MutOk G ⟨Pt', Bp'⟩ _ H Hf k ds (Bp' k)
        rw [bp k p h5]
        refine ⟨sv k _ h5, m.nf, ?_, m.ls⟩
        show (if Hf p = none ∧ ¬ passed p ∧ (∀ ps, H p ≠ some (.tbl ps)) then H p else none) = none
        rw [if_neg (fun z => z.2.1 ⟨k, i, h2, h5⟩)]
    · rename_i hge
      rw [List.getElem?_map] at e
      obtain ⟨d, h1, rfl⟩ := Option.map_eq_some_iff.mp e
      obtain ⟨v, h2, r⟩ := rd.getD h1
      refine ⟨v, ?_, r⟩
      rw [List.getElem?_map, List.getElem?_append_right (by omega)]
      rw [show k - vs.length = k - cs.length by omega, h2]; rfl
  · have low : ∀ (k : Nat) (c : Cell) (ds : Mu), (cs ++ dfl.map Cell.val)[k]? = some c → c.mu? = some ds → ∃ i, as[k]? = some (.sl i) := fun k c ds e m => by
      rw [List.getElem?_append] at e
      split at e
      · rcases hcs k c e with ⟨d, rfl, _⟩ | ⟨i, _, _, _, h2, _⟩
        · cases m
        · exact ⟨i, h2⟩
      · rw [List.getElem?_map] at e
        obtain ⟨d, _, rfl⟩ := Option.map_eq_some_iff.mp e
        cases m
    obtain ⟨i, hi⟩ := low k ck ds ek mk
    obtain ⟨j, hj⟩ := low l cl es el ml
    obtain ⟨p1, c1, d1, a1, a2, a3, m1⟩ := lent k i hi
    obtain ⟨p2, c2, d2, b1, b2, b3, m2⟩ := lent l j hj
    rw [sv k _ a1] at sk
    rw [sv l _ b1] at sl'
    cases sk
    cases sl'
    have := R.apart i j c1 c2 d1 d2 _ a2 b2 a3 b3 m1.at_ m2.at_
    subst this
    exact sls_inj nd hi hj
  · change (if Hf a = none ∧ ¬ passed a ∧ (∀ ps, H a ≠ some (.tbl ps)) then H a else none) = some o at e
    by_cases hh : Hf a = none ∧ ¬ passed a ∧ (∀ ps, H a ≠ some (.tbl ps))
    · rw [if_pos hh] at e; exact ⟨e, hh.1⟩
    · rw [if_neg hh] at e; cases e
  · change (if Hf a = none ∧ ¬ passed a ∧ (∀ ps, H a ≠ some (.tbl ps)) then H a else none) = some (.tbl ps) at e
    by_cases hh : Hf a = none ∧ ¬ passed a ∧ (∀ ps, H a ≠ some (.tbl ps))
    · rw [if_pos hh] at e; exact hh.2.2 ps e
    · rw [if_neg hh] at e; cases e
  · obtain ⟨l2, hw2⟩ := wb_at nd hw
    have keep : ∀ p o, H p = some o → (∀ ps, o ≠ .tbl ps) → Hf p = none → ¬ passed p → H' p = some o ∧ Hf' p = none := fun p o h1 nt h2 h3 => R'.prot p o (by
      show (if Hf p = none ∧ ¬ passed p ∧ (∀ ps, H p ≠ some (.tbl ps)) then H p else none) = some o
      rw [if_pos ⟨h2, h3, fun ps z => nt ps (by rw [h1] at z; exact Option.some.inj z)⟩]; exact h1)
    refine ⟨R.len.trans l2.symm, R'.sub, fun j c e => ?_, fun i j ci cj ds es' p ei ej mi mj si sj => ?_, fun a o e => ?_, ⟨R'.tabs.tb, R.tabs.nt, R'.tabs.nf⟩⟩
    · rcases hw2 j c e with ⟨k, c', ds, h1, h2, h3, rfl⟩ | ⟨h1, h2⟩
      · obtain ⟨p, c1, d1, a1, a2, a3, m1⟩ := lent k j h1
        rw [h3] at a2
        cases a2
        have m2 : MutOk G ⟨Pt', Bp'⟩ ((vs ++ dvs).map some) H' Hf' k ds (Bp' k) := R'.cell k _ h2
        rw [bp k p a1] at m2
        have new : MutOk G F σ H' Hf' j ds p := ⟨m1.at_, m2.nf, m1.np, m2.ls⟩
        cases c' with
        | no => cases a3
        | val d => cases a3
        | exn C f d => cases a3
        | own es => exact ⟨p, new⟩
        | bor es =>
          have : F.Bp j = p := by
            have h := (show MutOk G F σ H Hf j es (F.Bp j) from R.cell j _ h3).at_
            rw [m1.at_] at h
            cases h; rfl
          show MutOk G F σ H' Hf' j ds (F.Bp j)
          rw [this]; exact new
      · have k0 := R.cell j c h2
        have mk : ∀ ds p, c.mu? = some ds → MutOk G F σ H Hf j ds p → MutOk G F σ H' Hf' j ds p := fun ds p hl m => by
          obtain ⟨ws, hp, r⟩ := m.ls
          have np : ¬ passed p := fun z => h1 ((npass p z).2 j c ds h2 hl m.at_)
          obtain ⟨k1, k2⟩ := keep p _ hp (fun ps z => by subst z; exact mu_tbl r) m.nf np
          exact ⟨m.at_, k2, m.np, ws, k1, r.mono s⟩
        cases c with
        | no => trivial
        | val d => obtain ⟨v, h, r⟩ := k0; exact ⟨v, h, r.mono s⟩
        | own ds => obtain ⟨p, m⟩ := k0; exact ⟨p, mk _ _ rfl m⟩
        | bor ds => exact mk _ _ rfl k0
        | exn C f d => obtain ⟨a, dd, v, h0, h1, h2, r⟩ := k0; exact ⟨a, dd, v, h0, h1, s _ _ h2, r.mono s⟩
    · have old : ∀ (j : Nat) (c : Cell) (ds : Mu), ρ2[j]? = some c → c.mu? = some ds → ∃ c' ds', ρ[j]? = some c' ∧ c'.mu? = some ds' := fun j c ds e m => by
        rcases hw2 j c e with ⟨k, c', ds', h1, h2, h3, rfl⟩ | ⟨h1, h2⟩
        · obtain ⟨p, c1, d1, a1, a2, a3, m1⟩ := lent k j h1
          exact ⟨c1, d1, a2, a3⟩
        · exact ⟨c, ds, h2, m⟩
      obtain ⟨c1, d1, a1, a2⟩ := old i ci ds ei mi
      obtain ⟨c2, d2, b1, b2⟩ := old j cj es' ej mj
      exact R.apart i j c1 c2 d1 d2 p a1 b1 a2 b2 si sj
    · obtain ⟨h1, h2⟩ := R.prot a o e
      exact keep a o h1 (fun ps z => R.tabs.nt a ps (by rw [← z]; exact e)) h2 fun z => by rw [(npass a z).1] at e; cases e
theorem app_ok {α : Type} {W : WX} {n : Nat} {Qr : VK → α → Hp → Hp → PEnv → Prop} {fn : List Cell → Rs α} {vs dvs : List V} {as : List Arg} {dfl : List D} {Q : VK} (R : Rep G F σ H Hf ρ) (ra : ArgsOk G σ Hf vs as) (rd : RpL G Hf dvs dfl)
    (hq : ∀ d H' Hf' ρ1 ρ2, Qr Q d H' Hf' ρ1 → Qr Q d H' Hf' ρ2) (p : PostE G F W σ Hf (Qr Q) (appF n fn dfl as ρ)) : spQ G n Qr fn (vs ++ dvs) H Q (fun c d H' => W c d σ H') := by
  unfold appF at p
  by_cases hn : ¬ (as.length + dfl.length = n ∧ (sls as).Nodup)
  · rw [if_neg hn] at p; exact p.elim
  have hn := Decidable.not_not.mp hn
  rw [if_pos hn] at p
  cases hc : cells ρ as with
  | none => simp only [hc] at p; exact p.elim
  | some cs =>
    simp only [hc] at p
    obtain ⟨F', Ri, back⟩ := call_in R ra hc hn.2 rd
    refine ⟨F', Hf, _, by rw [List.length_append, ra.len, rd.len]; exact hn.1, Ri, ?_⟩
    cases hf : fn (cs ++ dfl.map .val) with
    | bad => simp only [hf] at p; exact p.elim
    | ok d es =>
      simp only [hf] at p
      cases hw : wb as es ρ with
      | none => simp only [hw] at p; exact p.elim
      | some ρ2 =>
        simp only [hw] at p
        exact fun H' Hf' R' s => hq _ _ _ _ _ (p H' Hf' (back R' s hw) s)
    | exc C f d es =>
      simp only [hf] at p
      cases hw : wb as es ρ with
      | none => simp only [hw] at p; exact p.elim
      | some ρ2 =>
        simp only [hw] at p
        exact fun v dd H' Hf' R' s r hd => p v dd H' Hf' (back R' s hw) s r hd
end
end Spk
namespace Spk
open PySem PySem.Spec PyProof.Rows L2
section
variable {G : Gx} {X : Cx} {W : WX} {e o : Expr} {es : List Expr} {os : List Opd} {pos p : Pos} {x : Str} {k j n : Nat} {ps : List Str} {fn : List Cell → Rs D} {f C : Addr} {fd : FuncData}
/-- f(..), nothing is let out -/
def eCall {α : Type} (n : Nat) (fn : List Cell → Rs α) (dfl : List D) (os : List Opd) : PEnv → Rs α := fun ρ => (evs os ρ).bind fun as ρ1 => (appF n fn dfl as ρ1).nx
theorem call_e0 {ex : Expr} {dvs : List V} {dfl : List D} (ha : DA G X W es os) (rd : ∀ Hf, RpL G Hf dvs dfl) (mk : ∀ {t : TA}, PA X es t → PE X ex (fun σ H Q => t σ H fun vs H1 => spD G n fn (vs ++ dvs) H1 Q E0)) : DE G X W ex (eCall n fn dfl os) := by
  obtain ⟨t1, p1, q1⟩ := ha
  refine DE.intro ⟨_, mk p1, fun F σ H Hf ρ Q R p => ?_⟩
  refine q1 F σ H Hf ρ _ R ((PostE.bind p).imp fun as H1 Hf1 ρ1 _ R1 s1 p vs rs => ?_)
  exact app_ok (W := W0) R1 rs (rd Hf1) (fun _ _ _ _ _ h => h) (PostE.nx (W := W) p)
theorem call_f0 {fl : List Cell → Rs (List D)} {ex : Expr} {dvs : List V} {dfl : List D} (ha : DA G X W es os) (rd : ∀ Hf, RpL G Hf dvs dfl) (mk : ∀ {t : TA}, PA X es t → PE X ex (fun σ H Q => t σ H fun vs H1 => spF G n fl (vs ++ dvs) H1 Q E0)) : DF G X W ex (eCall n fl dfl os) := by
  obtain ⟨t1, p1, q1⟩ := ha
  refine ⟨_, mk p1, fun F σ H Hf ρ Q R p => ?_⟩
  refine q1 F σ H Hf ρ _ R ((PostE.bind p).imp fun as H1 Hf1 ρ1 _ R1 s1 p vs rs => ?_)
  exact app_ok (W := W0) R1 rs (rd Hf1) (fun _ _ _ _ _ h => h) (PostE.nx (W := W) p)
theorem df_call {fl : List Cell → Rs (List D)} (R : Rdy X.prog X.w X.K X.mg X.base x k ps (spF G n fl) f fd) (rm : Room j X.A) (hj : k ≤ j) (hg : Gl X x) (ha : DA G X W (e :: es) os) (hdb : (x == ("__debug__" : Str)) = false := by decide)
    (he : starEach (e :: es) X.env = (false, eval e X.env) :: starEach es X.env := by rfl) (hpl : (backTo pos (starEach es X.env)).any (·.1) = false := by rfl) : DF G X W (.Call (.Name x p) (e :: es) [] pos) (eCall n fl [] os) :=
  call_f0 ha (fun _ => .nil) fun pa => pe_rdy R rm hj hg pa hdb he hpl
theorem de_call (R : Rdy X.prog X.w X.K X.mg X.base x k ps (spD G n fn) f fd) (rm : Room j X.A) (hj : k ≤ j) (hg : Gl X x) (ha : DA G X W (e :: es) os) (hdb : (x == ("__debug__" : Str)) = false := by decide)
    (he : starEach (e :: es) X.env = (false, eval e X.env) :: starEach es X.env := by rfl) (hpl : (backTo pos (starEach es X.env)).any (·.1) = false := by rfl) : DE G X W (.Call (.Name x p) (e :: es) [] pos) (eCall n fn [] os) :=
  call_e0 ha (fun _ => .nil) fun pa => pe_rdy R rm hj hg pa hdb he hpl
/-! ### instances -/
/-- the field g of an instance of one of these classes -/
def fldD (Cs : List Str) (g : Str) : D → Option D
  | .ins C ks ds => if C ∈ Cs then (ks.zip ds).lookup g else none
  | _ => none
def eFld (Cs : List Str) (g : Str) (o : EX) : EX := fun ρ => (o ρ).bind fun d ρ1 => Rs.lift (fldD Cs g d) ρ1
def eSFld (C : Str) (g : Str) (i : Nat) : EX := fun ρ => match ρ[i]?.bind Cell.mu? with
  | some (.obj C' ks ds) => if C' = C then Rs.lift ((ks.zip ds).lookup g) ρ else .bad
  | _ => .bad
/-- self.g = e, in the making -/
def putK (g : Str) (d : D) : List Str → List D → Option (List Str × List D)
  | [], [] => some ([g], [d])
  | k :: ks, e :: es => if k = g then some (k :: ks, d :: es) else (putK g d ks es).map fun p => (k :: p.1, e :: p.2)
  | _, _ => none
def sFldS (C g : Str) (i : Nat) (fe : EX) : SX := fun ρ => Sr.of (fe ρ) fun d ρ1 => match ρ1[i]? with
  | some c => (match c.mu? with
    | some (.obj C' ks ds) => if C' = C ∧ ks.length < 1000 then (match putK g d ks ds with
      | some (ks', ds') => .nx (ρ1.set i (c.put (.obj C ks' ds')))
      | none => .bad) else .bad
    | _ => .bad)
  | none => .bad
/-! ### making an instance -/
def mkE (n : Nat) (fn : List Cell → Rs D) (C : Str) (dfl : List D) (as : List Arg) (ρ : PEnv) : Rs D := match appF n fn dfl (.sl ρ.length :: as) (ρ ++ [.own (.obj C [] [])]) with
  | .ok .non ρ2 => (match ρ2[ρ.length]? with
    | some (.own (.obj C' ks ds)) => if C' = C ∧ ρ2.length = ρ.length + 1 then .ok (.ins C ks ds) (ρ2.take ρ.length) else .bad
    | _ => .bad)
  | .exc E g d ρ2 => if ρ2.length = ρ.length + 1 then .exc E g d (ρ2.take ρ.length) else .bad
  | _ => .bad
theorem Rep.push {F : Fr} {σ : L2.St} {H Hf : Hp} {ρ : PEnv} (R : Rep G F σ H Hf ρ) {a dx : Addr} {c : Str} (na : H a = none) (nd : H dx = none) (ne : dx ≠ a) :
    Rep G F (σ ++ [some (.ref a)]) (upd (upd H dx (.own a)) a (.ins (G.cm c) dx [])) Hf (ρ ++ [.own (.obj c [] [])]) := by
  have na' : (upd H dx (.own a)) a = none := by rw [upd_ne ne.symm]; exact na
  have R1 := (R.side nd (.own a)).side na' (.ins (G.cm c) dx [])
  obtain ⟨_, np, nm⟩ := (R.side nd (.own a)).newFree na'
  have low : ∀ {i : Nat} {c' : Cell}, (ρ ++ [Cell.own (.obj c [] [])])[i]? = some c' → (i < ρ.length ∧ ρ[i]? = some c') ∨ (i = ρ.length ∧ c' = .own (.obj c [] [])) := fun {i c'} e => by
    rw [List.getElem?_append] at e
    split at e
    · exact .inl ⟨by assumption, e⟩
    · rename_i h
      have : i - ρ.length = 0 := by
        cases hh : i - ρ.length with
        | zero => rfl
        | succ m => rw [hh] at e; simp at e
      rw [this] at e
      exact .inr ⟨by omega, (Option.some.inj e).symm⟩
  have sl : ∀ {i : Nat}, i < ρ.length → (σ ++ [some (.ref a)])[i]? = σ[i]? := fun {i} h => List.getElem?_append_left (by rw [R.len]; exact h)
  have sa : (σ ++ [some (V.ref a)])[ρ.length]? = some (some (.ref a)) := by
    rw [List.getElem?_append_right (by rw [R.len]; exact Nat.le_refl _), R.len, Nat.sub_self]; rfl
  refine ⟨by simp [R.len], R1.sub, fun i c' e => ?_, fun i j ci cj ds es p ei ej mi mj si sj => ?_, R1.prot, R1.tabs⟩
  · rcases low e with ⟨hl, e⟩ | ⟨rfl, rfl⟩
    · have k := R1.cell i c' e
      have mk : ∀ ds p, MutOk G F σ (upd (upd H dx (.own a)) a (.ins (G.cm c) dx [])) Hf i ds p → MutOk G F (σ ++ [some (.ref a)]) (upd (upd H dx (.own a)) a (.ins (G.cm c) dx [])) Hf i ds p := fun ds p m => ⟨by rw [sl hl]; exact m.at_, m.nf, m.np, m.ls⟩
      cases c' with
      | no => trivial
      | val d => obtain ⟨v, h, r⟩ := k; exact ⟨v, by rw [sl hl]; exact h, r⟩
      | own ds => obtain ⟨p, m⟩ := k; exact ⟨p, mk _ _ m⟩
      | bor ds => exact mk _ _ k
      | exn C f d => obtain ⟨a', dd, v, h0, h1, h2, r⟩ := k; exact ⟨a', dd, v, h0, by rw [sl hl]; exact h1, h2, r⟩
    · exact ⟨a, sa, (R.side nd (.own a)).nf na', np, _, upd_same, rfl, [], rfl, rfl, .nil⟩
  · rcases low ei with ⟨h1, e1⟩ | ⟨rfl, rfl⟩ <;> rcases low ej with ⟨h2, e2⟩ | ⟨rfl, rfl⟩
    · rw [sl h1] at si
      rw [sl h2] at sj
      exact R.apart i j ci cj ds es p e1 e2 mi mj si sj
    · rw [sl h1] at si
      rw [sa] at sj
      cases sj
      exact absurd si (nm i ci ds e1 mi)
    · rw [sa] at si
      rw [sl h2] at sj
      cases si
      exact absurd sj (nm j cj es e2 mj)
    · rfl
theorem ArgOk.push {σ : L2.St} {Hf : Hp} {v : V} {a : Arg} {s : Option V} (h : ArgOk G σ Hf v a) : ArgOk G (σ ++ [s]) Hf v a := by
  cases a with
  | val d => exact h
  | sl i =>
    have h : σ[i]? = some (some v) := h
    show (σ ++ [s])[i]? = _
    rw [List.getElem?_append_left (List.getElem?_eq_some_iff.mp h).1]; exact h
theorem ArgsOk.push {σ : L2.St} {Hf : Hp} {s : Option V} : ∀ {vs : List V} {as : List Arg}, ArgsOk G σ Hf vs as → ArgsOk G (σ ++ [s]) Hf vs as
  | _, _, .nil => .nil
  | _, _, .cons h t => .cons h.push (ArgsOk.push t)
def eMk (n : Nat) (fn : List Cell → Rs D) (c : Str) (dfl : List D) (os : List Opd) : EX := fun ρ => (evs os ρ).bind fun as ρ1 => (mkE n fn c dfl as ρ1).nx
/-! ### methods, properties, signs -/
end
end Spk
namespace Spk
open PySem PySem.Spec PyProof.Rows L2
section
variable {G : Gx} {X : Cx} {W : WX} {e e2 o a b : Expr} {es : List Expr} {os : List Opd} {pos p : Pos} {x : Str} {k j n : Nat} {ps : List Str} {fn : List Cell → Rs D} {f C : Addr} {fd : FuncData}
/-! ### signs between instances -/
def isIns (c : Str) : D → Bool
  | .ins C _ _ => C == c
  | _ => false
/-! ### isinstance -/
def tyS : D → Option String
  | .non => some "NoneType"
  | .bl _ => some "bool"
  | .int _ => some "int"
  | .str _ => some "str"
  | .lst _ => some "list"
  | .tup _ => some "tuple"
  | _ => none
def isiD (tb : List (String × Bool)) (ow : List (Str × Bool)) (d : D) : Option Bool := match d with
  | .ins c _ _ => ow.lookup c
  | d => (tyS d).bind fun s => tb.lookup s
def eIsi (tb : List (String × Bool)) (ow : List (Str × Bool)) (o : Opd) : EX := fun ρ => (o.ev ρ).bind fun a ρ1 => Rs.lift (((a.dat ρ1).bind (isiD tb ow)).map D.bl) ρ1
/-- isinstance(x, (S, T)) -/
def orO : Option Bool → Option Bool → Option Bool
  | some true, some _ => some true
  | some false, b => b
  | _, _ => none
end
end Spk
/-! list(zip(xs, ys)) of two lists -/
namespace Spk
open PySem PySem.Spec PyProof.Rows L2
/-- a zip that gave i tuples, the first of them at T and still there -/
structure ZSt (h : Heap) (z TI TO i1 i2 l1 l2 : Addr) (xs ys : Array Value) (i : Nat) (last : Option Addr) : Prop where
  zz : (last = none ∧ IsZip h z TI TO .none ∧ ∃ a b, IsPair h TO a b) ∨ ∃ T f o, last = some T ∧ IsZipHeld h z TI TO T f ∧ h.get? T = some o
  tO : ∃ o, h.get? TO = some o
  ti : IsPair h TI (.ref i1) (.ref i2)
  j1 : h.IsListIter i1 l1 i
  j2 : h.IsListIter i2 l2 i
  a1 : h.IsList l1 xs
  a2 : h.IsList l2 ys
section
variable {P : Program} {w : World} {A : Around} {R : Result → Shared → Prop} {z TI TO i1 i2 l1 l2 S : Addr} {xs ys : Array Value}
theorem ZSt.keep {h h' : Heap} {i : Nat} {last : Option Addr} (Z : ZSt h z TI TO i1 i2 l1 l2 xs ys i last) (hS : S ∉ [z, TI, TO, i1, i2, l1, l2]) (hl : last ≠ some S) (k : ∀ b o, b ≠ S → h.get? b = some o → h'.get? b = some o) : ZSt h' z TI TO i1 i2 l1 l2 xs ys i last := by
  obtain ⟨zz, ⟨u, hu⟩, ti, j1, j2, a1, a2⟩ := Z
  simp only [List.mem_cons, List.not_mem_nil, or_false, not_or] at hS
  obtain ⟨n1, n2, n3, n4, n5, n6, n7⟩ := hS
  refine ⟨?_, ⟨u, k _ _ (Ne.symm n3) hu⟩, k _ _ (Ne.symm n2) ti, j1.at fun o e => k _ o (Ne.symm n4) e, j2.at fun o e => k _ o (Ne.symm n5) e, a1.at fun o e => k _ o (Ne.symm n6) e, a2.at fun o e => k _ o (Ne.symm n7) e⟩
  rcases zz with ⟨e, hz, a, b, ho⟩ | ⟨T, f, o, e, hz, hT⟩
  · exact .inl ⟨e, k _ _ (Ne.symm n1) hz, a, b, k _ _ (Ne.symm n3) ho⟩
  · exact .inr ⟨T, f, o, e, k _ _ (Ne.symm n1) hz, k _ _ (fun q => hl (by rw [e, q])) hT⟩
end
end Spk
/-! tuple(zip(xs, ys)) of two lists -/
/-! sets of ints: made of a list, and sorted, any number of them -/
namespace Spk
open PySem PySem.Spec PyProof.Rows L2
section
variable {G : Gx} {X : Cx} {W : WX} {x : Str} {p pos : Pos} {j : Nat}
theorem de_cst {e : Expr} {v : V} {d : D} (p : PE X e (tC v)) (r : ∀ Hf, Rp G Hf v d) : DE G X W e (eC d) := de_of (tC v) v d p r
theorem de_non : DE G X W (.Constant .none j pos) (eC .non) := de_cst pe_non fun _ => .non
theorem de_bl {b : Bool} : DE G X W (.Constant (.bool b) j pos) (eC (.bl b)) := de_cst pe_bl fun _ => .bl b
theorem de_int {i : Int} : DE G X W (.Constant (.int i) j pos) (eC (.int i)) := de_cst pe_int fun _ => .int i
theorem de_str {s : Str} (h : PyData.canLay0 (.str s) = true) : DE G X W (.Constant (.str s) j pos) (eC (.str s)) := de_cst pe_str fun _ => .str h
end
end Spk
namespace Spk
open PySem PySem.Spec PyProof.Rows L2
/-! ### the end of a law over the pure layer -/
theorem FnG.imp {P : Program} {w : World} {K : PySem.W.Frag} {mg : Str → Option Value} {bh : Heap} {k : Nat} {f : Addr} {fd : FuncData} {ps : List Str} {sp sp' : Sp} (F : FnG P w K mg bh k f fd ps sp) (h : ∀ vs H Q E, sp' vs H Q E → sp vs H Q E) : FnG P w K mg bh k f fd ps sp' :=
  ⟨fun ws J R U z => F.lenG ws J R U (h _ _ _ _ z), fun B ou t J ar xs ws R U g rm e b v z => F.runG B ou t J ar xs ws R U g rm e b v (h _ _ _ _ z)⟩
def lawSp (K : PySem.W.Frag) : Sp := fun vs H Q _ => ∃ (a : Addr) (ns : List Int), vs = [.ref a] ∧ SqL K H a (ns.map V.int) ∧ ns.length ≤ 63 ∧ ∀ H', Q (.bl true) H'
/-- all but the tables -/
def noTbl (H : Hp) : Hp := fun b => match H b with
  | some (.tbl _) => none
  | o => o
theorem noTbl_of {H : Hp} {b : Addr} {o : HO} (h : H b = some o) (n : ∀ ps, o ≠ .tbl ps) : noTbl H b = some o := by
  unfold noTbl
  rw [h]
  cases o <;> first
    | rfl
    | exact absurd rfl (n _)
theorem noTbl_some {H : Hp} {b : Addr} {o : HO} (h : noTbl H b = some o) : H b = some o ∧ ∀ ps, o ≠ .tbl ps := by
  unfold noTbl at h
  split at h
  · cases h
  · rename_i n
    exact ⟨h, fun ps z => n ps (by rw [h, z])⟩
/-- the law's call where tables of code objects stand -/
def lawSpT (K : PySem.W.Frag) (cm : Str → Addr) (TT : List (Str × Str)) : Sp := fun vs H Q _ => ∃ (a : Addr) (ns : List Int), vs = [.ref a] ∧ SqL K H a (ns.map V.int) ∧ ns.length ≤ 63 ∧ TabsG (Gx.mk K cm none TT) H ∧ ∀ H', Q (.bl true) H'
theorem law_spT {K : PySem.W.Frag} {cm : Str → Addr} {TT : List (Str × Str)} {fn : List Cell → Rs D} (hf : ∀ ns : List Int, ns.length ≤ 63 → ∃ es, fn [.val (.scr ns)] = .ok (.bl true) es) : ∀ vs H Q E, lawSpT K cm TT vs H Q E → spD (Gx.mk K cm none TT) 1 fn vs H Q E := by
  rintro vs H Q E ⟨a, ns, rfl, hs, hl, tb, q⟩
  obtain ⟨es, he⟩ := hf ns hl
  have sub : Same (noTbl H) H := fun b o e => (noTbl_some e).1
  have sq : SqL K (noTbl H) a (ns.map V.int) := by
    rcases hs with h | h
    · exact .inl (h.imp (fun h => noTbl_of h (fun _ z => by cases z)) fun ⟨o, h⟩ => ⟨o, noTbl_of h (fun _ z => by cases z)⟩)
    · exact .inr h
  refine ⟨⟨fun _ => none, fun _ => a⟩, noTbl H, [.val (.scr ns)], rfl, ⟨rfl, sub, fun i c e => ?_, fun i j ci cj ds es p ei ej mi mj _ _ => ?_, (fun b o e => nomatch e), ⟨tb, (fun _ _ e => nomatch e), fun b ps e => (noTbl_some e).2 ps rfl⟩⟩, ?_⟩
  · match i, e with
    | 0, e =>
      obtain rfl := Option.some.inj (show some (Cell.val (.scr ns)) = some c from e)
      exact ⟨.ref a, rfl, .scr sq⟩
  · match i, ei with
    | 0, ei =>
      obtain rfl := Option.some.inj (show some (Cell.val (.scr ns)) = some ci from ei)
      cases mi
  · rw [he]
    intro H' Hf' R s v r
    cases r
    exact q H'
theorem law_sp {K : PySem.W.Frag} {cm : Str → Addr} {fn : List Cell → Rs D} (hf : ∀ ns : List Int, ns.length ≤ 63 → ∃ es, fn [.val (.scr ns)] = .ok (.bl true) es) : ∀ vs H Q E, lawSp K vs H Q E → spD (Gx.mk K cm none []) 1 fn vs H Q E := by
  rintro vs H Q E ⟨a, ns, rfl, hs, hl, q⟩
  exact law_spT hf _ H Q E ⟨a, ns, rfl, hs, hl, fun _ z => absurd z List.not_mem_nil, q⟩
end Spk
namespace Spk
open PySem PySem.Spec PyProof.Rows L2
/-! ### own ==, in, bool; is of truths -/
section
variable {G : Gx} {X : Cx} {W : WX} {a : Expr} {k j : Nat} {f : Addr} {fn : List Cell → Rs D} {c e : Str} {pos : Pos} {fa : EX}
theorem Rq.ins {H Hf : Hp} {v : V} {d : D} (h : Rq G H Hf v d) (c : isIns c d = true) : Rp G Hf v d := h.nl fun ds z => by rw [z] at c; cases c
end
end Spk
namespace Spk
open PySem PySem.Spec PyProof.Rows L2
/-- what the top must have left of an own error class over a built-in one -/
structure ErrG (K : PySem.W.Frag) (C : Addr) (f : Str) : Prop where
  cls : ∃ B ni ii bm, ExcBaseFacts B ni ii bm ∧ (∀ z, refuseLoop z "__setattr__" bm = pure ()) ∧ bm.contains (.type "object") = true ∧
    ∃ nm q N bs sn sub ab col dd k0 k1 k2 k3 k5, K.lookup C = some (excClassObj nm q C N bs bm true sn sub ab col dd k0 k1 k2 k3 k5 ni)
  sa : PySem.W.findIn K (.ref C) "__setattr__" = some (some (.builtin "object.__setattr__"))
  ga : PySem.W.findIn K (.ref C) "__getattribute__" = some (some (.builtin "BaseException.__getattribute__"))
  gg : PySem.W.findIn K (.ref C) "__getattr__" = some none
  nf : PySem.W.findIn K (.ref C) f = some none
  kC : PySem.W.keepIn K (.ref C) = true
  eC : PySem.W.subIn K (.ref C) (.type "BaseException") = some true
  tC : PySem.W.typeIn K (.ref C) = some (.type "type")
  hC : PySem.W.hasDictIn K C = true
  iC : PySem.W.isClsIn K C = true
  sC : PySem.W.subIn K (.ref C) (.ref C) = some true
theorem ErrG.xf {K : PySem.W.Frag} {C : Addr} {f : Str} (h : ErrG K C f) : XfC K C := ⟨h.ga, h.gg, h.eC, h.hC⟩
theorem ErrG.oex {K : PySem.W.Frag} {C : Addr} {f : Str} (h : ErrG K C f) : OexB K C := ⟨h.cls, h.sa, h.eC, h.tC, h.kC⟩
theorem ErrG.excC {K : PySem.W.Frag} {C : Addr} {f : Str} (h : ErrG K C f) (ha : PySem.W.findIn K (.ref C) "__class__" = some (some (.builtin "object.__class__"))) (hn : PySem.W.specialIn K (.builtin "object.__class__") "__get__" = some (some (.builtin "getset_descriptor.__get__")))
    (ht : PySem.W.takesIn K (.builtin "object.__class__") = some true) (hm : PySem.W.mroIn K C (.type "object") = some true) : ExcC K C := ⟨h.ga, h.gg, h.eC, h.hC, ha, hn, ht, hm⟩
theorem ErrG.errB {K : PySem.W.Frag} {P : Program} {w : World} {mg : Str → Option Value} {bh : Heap} {x f qu : Str} {C fI : Addr} {fd : FuncData} {st : Stmt} {q1 q2 q3 q4 : Pos} (h : ErrG K C f) (gC : mg x = some (.ref C))
    (iC : PySem.W.findIn K (.ref C) "__init__" = some (some (.ref fI))) (tI : PySem.W.typeIn K (.ref fI) = some (.type "function")) (F : Fun K "__init__" qu st fI fd) (bd : Binds K fd ["self", f] [])
    (S : FnScope ["self", f] ["self", f] (defScope st)) (hb : defBody st = [.Assign [.Attribute (.Name "self" q1) f q2] (.Name f q3) q4]) (hf1 : (f == ("__debug__" : Str)) = false) (hf2 : (f == ("__classdict__" : Str)) = false)
    (v0 : (defScope st).names.lookup ("self" : Str) = some .local) (v1 : (defScope st).names.lookup f = some .local) : ErrB P w K mg bh x f C fI fd :=
  ⟨h.oex, h.xf, h.nf, iC, tI, gC, ok_initB F S h.oex h.nf hb hf1 hf2 v0 v1, bd⟩
/-! ### raise -/
section
variable {G : Gx} {X : Cx} {W : WX} {e : Expr} {pos p pos2 : Pos} {x f : Str} {fI : Addr} {fd : FuncData} {fe : EX} {c : Str} {k : Nat}
def sRaiseB (C f : Str) (fe : EX) : SX := fun ρ => Sr.of (fe ρ) fun d ρ1 => .exc C f d ρ1
end
/-! ### another exception at hand -/
section
variable {K : PySem.W.Frag} {cm : Str → Addr} {TT : List (Str × Str)} {e e' : Option (Addr × Value × Option Addr)} {H Hf : Hp} {F : Fr} {σ : L2.St} {ρ : PEnv}
def Cell.noX : Cell → Bool
  | .exn _ _ _ => false
  | _ => true
def noExn (ρ : PEnv) : Bool := ρ.all Cell.noX
end
/-! ### try: .. except X as n: .. -/
structure CL where
  tb : List (Str × Bool)
  i : Nat
  f : SX
def dropX (i : Nat) (ρ : PEnv) (k : PEnv → Sr) : Sr := if noExn (ρ.set i .no) = true then k (ρ.set i .no) else .bad
def Sr.out (i : Nat) : Sr → Sr
  | .nx ρ => dropX i ρ .nx
  | .rt d ρ => dropX i ρ (.rt d)
  | .rf ds ρ => dropX i ρ (.rf ds)
  | .bk ρ => dropX i ρ .bk
  | .ct ρ => dropX i ρ .ct
  | _ => .bad
def exS : List CL → Str → Str → D → PEnv → Sr
  | [], C, g, d, ρ => .exc C g d ρ
  | k :: r, C, g, d, ρ => match k.tb.lookup C with
    | some true => if noExn ρ = true then (k.f (ρ.set k.i (.exn C g d))).out k.i else .bad
    | some false => exS r C g d ρ
    | none => .bad
def trS (cs : List CL) : Sr → Sr
  | .exc C g d ρ => exS cs C g d ρ
  | r => r
def sTry (f : SX) (cs : List CL) : SX := fun ρ => trS cs (f ρ)
def tDSs (G : Gx) (W : WX) (f : SX) : TS := fun En σ H => ∃ (F : Fr) (Hf : Hp) (ρ : PEnv), Rep G F σ H Hf ρ ∧ PostS G F W Hf En (f ρ)
theorem DSs.pss {G : Gx} {X : Cx} {W : WX} {sts : List Stmt} {f : SX} (h : DSs G X W sts f) : PSs X sts (tDSs G W f) := by
  obtain ⟨t, p, q⟩ := h
  exact ⟨fun pins s σ H En I ⟨F, Hf, ρ, R, z⟩ => p.run pins s σ H En I (q F σ H Hf ρ En R z)⟩
section
variable {K : PySem.W.Frag} {cm : Str → Addr} {TT : List (Str × Str)} {X : Cx} {W : WX} {bd : List Stmt} {h0 : ExceptHandler} {hds : List ExceptHandler} {pos : Pos} {f1 : SX}
inductive DCl (TT : List (Str × Str)) (K : PySem.W.Frag) (cm : Str → Addr) (X : Cx) : List ExceptHandler → List (CL × Value) → Prop
  | nil : DCl TT K cm X [] []
  | cons {x n : Str} {k : CL} {c : Value} {s0 : Stmt} {su : List Stmt} {np hp : Pos} {hds : List ExceptHandler} {l : List (CL × Value)} (hi : X.N[k.i]? = some n) (hln : X.env.kindOf n = some .local) (hc : Names X x c)
      (hx : ∀ C b, k.tb.lookup C = some b → PySem.W.exmOne K (.ref (cm C)) c = some b)
      (hs : ∀ (a : Addr) (oe : Obj) (cls : Value) (d : Option Addr) (pn : List (Addr × Obj)), Zc cls d oe → (∃ vs, oe.data = .fields vs) → DSs ⟨K, cm, some (a, cls, d), TT⟩ (X.suite a ((a, oe) :: pn)) W0 (s0 :: su) k.f)
      (r : DCl TT K cm X hds l) : DCl TT K cm X (.ExceptHandler (some (.Name x np)) (some n) (s0 :: su) hp :: hds) ((k, c) :: l)
def clOf (TT : List (Str × Str)) (K : PySem.W.Frag) (cm : Str → Addr) (l : List (CL × Value)) : List Cl := l.map fun q => ⟨q.2, q.1.i, fun a cls d => tDSs ⟨K, cm, some (a, cls, d), TT⟩ W0 q.1.f⟩
theorem DCl.ok {l : List (CL × Value)} (h : DCl TT K cm X hds l) : ClOk X hds (clOf TT K cm l) := by
  induction h with
  | nil => exact .nil
  | cons hi hln hc hx hs r ih => exact ClOk.cons hi hln hc (fun a oe cls d pn hz hf => (hs a oe cls d pn hz hf).pss) ih
/-- e.f -/
def eXf (i : Nat) (C g : Str) : EX := fun ρ => match ρ[i]? with
  | some (.exn C' f d) => if C' = C ∧ f = g then .ok d ρ else .bad
  | _ => .bad
/-- isinstance(e, T) -/
def eXis (i : Nat) (tb : List (Str × Bool)) : EX := fun ρ => match ρ[i]? with
  | some (.exn C _ _) => Rs.lift ((tb.lookup C).map .bl) ρ
  | _ => .bad
def XisF (K : PySem.W.Frag) (cm : Str → Addr) (cv : Value) (tb : List (Str × Bool)) : Prop := ∀ C b, tb.lookup C = some b → ExcC K (cm C) ∧ PySem.W.kitOne K (.ref (cm C)) cv = some b
end
end Spk
namespace Spk
open PySem PySem.Spec PyProof.Rows L2
/-! ### own signs, own == with anything, what is raised at the caller's slots -/
/-! ### over data -/
section
variable {G : Gx} {X : Cx} {W : WX} {a b : Expr} {k j : Nat} {f : Addr} {fn : List Cell → Rs D} {c d : Str} {es : List Str} {pos : Pos} {fa fb : EX} {op : Operator}
/-- signs of instances; what is raised goes on -/
def eOpX (t : D → D → Bool) (sw : Bool) (fn : List Cell → Rs D) (fa fb : EX) : EX := fun ρ => (fa ρ).bind fun x ρ1 => (fb ρ1).bind fun y ρ2 => if t x y = true then (if sw = true then appF 2 fn [] [.val y, .val x] ρ2 else appF 2 fn [] [.val x, .val y] ρ2) else .bad
/-- the same where nothing is let out -/
def eOpN (t : D → D → Bool) (sw : Bool) (fn : List Cell → Rs D) (fa fb : EX) : EX := fun ρ => (fa ρ).bind fun x ρ1 => (fb ρ1).bind fun y ρ2 => if t x y = true then (if sw = true then appF 2 fn [] [.val y, .val x] ρ2 else appF 2 fn [] [.val x, .val y] ρ2).nx else .bad
def isI : D → Bool
  | .int _ => true
  | _ => false
def tI (c : Str) (x y : D) : Bool := isIns c x && isI y
def t2 (c d : Str) (x y : D) : Bool := isIns c x && isIns d y
end
end Spk
namespace Spk
open PySem PySem.Spec PyProof.Rows L2
/-! ### constants of a class -/
section
variable {G : Gx} {X : Cx} {W : WX} {e o : Expr} {es : List Expr} {os ks : List Opd} {pos p apos : Pos} {x m c g : Str} {k j n : Nat} {ps : List Str} {fn : List Cell → Rs D} {f : Addr} {fd : FuncData} {fo : EX}
def eConI (c g : Str) (i : Int) (fo : EX) : EX := fun ρ => (fo ρ).bind fun d ρ1 => match d with
  | .ins C ks ds => if C = c ∧ (ks.zip ds).lookup g = none then .ok (.int i) ρ1 else .bad
  | _ => .bad
/-! ### methods -/
def noKey (m : Str) : D → Bool
  | .ins _ ks ds => ((ks.zip ds).lookup m).isNone
  | _ => false
/-- o.m(..), what m raises goes on; nothing is let out -/
def eMethX (n : Nat) (fn : List Cell → Rs D) (c m : Str) (dfl : List D) (fo : EX) (os : List Opd) : EX := fun ρ => (fo ρ).bind fun d ρ1 => if isIns c d = true ∧ noKey m d = true then (evs os ρ1).bind fun as ρ2 => appF n fn dfl (.val d :: as) ρ2 else .bad
def eMethN (n : Nat) (fn : List Cell → Rs D) (c m : Str) (dfl : List D) (fo : EX) (os : List Opd) : EX := fun ρ => (fo ρ).bind fun d ρ1 => if isIns c d = true ∧ noKey m d = true then (evs os ρ1).bind fun as ρ2 => (appF n fn dfl (.val d :: as) ρ2).nx else .bad
end
/-! ### making an instance, raising or not, with defaults and keywords -/
section
variable {G : Gx} {X : Cx} {W : WX} {e : Expr} {es : List Expr} {os kos : List Opd} {p pos : Pos} {x c : Str} {k j n : Nat} {ps : List Str} {fn : List Cell → Rs D} {f : Addr} {fd : FuncData} {kws : List Keyword} {dvs : List V} {dfl : List D}
def eMkX (n : Nat) (fn : List Cell → Rs D) (c : Str) (dfl : List D) (os : List Opd) : EX := fun ρ => (evs os ρ).bind fun as ρ1 => mkE n fn c dfl as ρ1
theorem ArgsOk.app {σ : L2.St} {Hf : Hp} {zs : List V} {bs : List Arg} (h2 : ArgsOk G σ Hf zs bs) : ∀ {vs : List V} {as : List Arg}, ArgsOk G σ Hf vs as → ArgsOk G σ Hf (vs ++ zs) (as ++ bs)
  | _, _, .nil => h2
  | _, _, .cons a t => .cons a (ArgsOk.app h2 t)
theorem ArgsOk.mono {σ : L2.St} {Hf Hf' : Hp} (s : Same Hf Hf') : ∀ {vs : List V} {as : List Arg}, ArgsOk G σ Hf vs as → ArgsOk G σ Hf' vs as
  | _, _, .nil => .nil
  | _, _, .cons a t => .cons (ArgOk.mono a s) (ArgsOk.mono s t)
def eMkKX (n : Nat) (fn : List Cell → Rs D) (c : Str) (l m : Nat) (gA : List Arg → List Arg → List Arg) (os kos : List Opd) : EX := fun ρ => (evs os ρ).bind fun as ρ1 => (evs kos ρ1).bind fun bs ρ2 => if as.length = l ∧ bs.length = m then mkE n fn c [] (gA as bs) ρ2 else .bad
def eMkKN (n : Nat) (fn : List Cell → Rs D) (c : Str) (l m : Nat) (gA : List Arg → List Arg → List Arg) (os kos : List Opd) : EX := fun ρ => (evs os ρ).bind fun as ρ1 => (evs kos ρ1).bind fun bs ρ2 => if as.length = l ∧ bs.length = m then (mkE n fn c [] (gA as bs) ρ2).nx else .bad
end
end Spk
namespace Spk
open PySem PySem.Spec PyProof.Rows L2
/-! ### defs that may raise, called where nothing is let out -/
/-! ### a def that calls itself: so deep at most -/
theorem rec_zero {P : Program} {w : World} {K : PySem.W.Frag} {mg : Str → Option Value} {bh : Heap} {CX : CXT} {k n : Nat} {f : Addr} {fd : FuncData} {ps : List Str} {G : Gx} (h : n = ps.length) : FnOk P w K mg bh CX k f fd ps (spD G n fun _ => .bad) :=
  ⟨fun vs H Q E z => spQ_len h vs H Q E z, fun A outer s H args us vs Q E hr he hb hv z => by obtain ⟨_, _, _, _, _, po⟩ := z; exact po.elim⟩
/-! ### what the end wants -/
theorem xi_of {K : PySem.W.Frag} {cm : Str → Addr} {u : Value} {tb : List (Str × Bool)} (h : ∀ q ∈ tb, ExcC K (cm q.1) ∧ PySem.W.kitOne K (.ref (cm q.1)) u = some q.2) : XisF K cm u tb := by
  intro a b e
  induction tb with
  | nil => cases e
  | cons q r ih =>
    obtain ⟨x, y⟩ := q
    rw [List.lookup_cons] at e
    by_cases c : a = x
    · subst c
      simp only [beq_self_eq_true] at e
      cases e
      exact h _ List.mem_cons_self
    · have : (a == x) = false := by simpa using c
      rw [this] at e
      exact ih (fun q hq => h q (List.mem_cons_of_mem _ hq)) e
end Spk
namespace Spk
open PySem PySem.Spec PyProof.Rows L2
def gSqD (n : Nat) (gs : List D → PEnv → Option PEnv) : TGf := fun d ρ => match d with
  | .tup ds => if ds.length = n then gs ds ρ else none
  | .lst ds => if ds.length = n then gs ds ρ else none
  | _ => none
end Spk
namespace Spk
open PySem PySem.Spec PyProof.Rows L2
/-! ### x, y = a new list, a constant -/
def sParF (i j : Nat) (fl : PEnv → Rs (List D)) (d : D) : SX := fun ρ => Sr.of (fl ρ) fun ds ρ1 => if notBor ρ1 i = true ∧ notBor ρ1 j = true then .nx ((ρ1.set i (.own (.lst ds))).set j (.val d)) else .bad
/-- x, y = a value, a new list -/
def sParE (i j : Nat) (fe : EX) (fl : PEnv → Rs (List D)) : SX := fun ρ => Sr.of (fe ρ) fun d ρ1 => Sr.of (fl ρ1) fun ds ρ2 => if notBor ρ2 i = true ∧ notBor ρ2 j = true then .nx ((ρ2.set i (.val d)).set j (.own (.lst ds))) else .bad
end Spk
namespace Spk
open PySem PySem.Spec PyProof.Rows L2
/-! ### f(a=.., b=..) -/
section
variable {G : Gx} {X : Cx} {W : WX} {kos : List Opd} {p pos : Pos} {x : Str} {k j n : Nat} {ps : List Str} {fn : List Cell → Rs D} {f : Addr} {fd : FuncData} {kws : List Keyword} {dvs : List V}
def eCallK (n : Nat) (fn : List Cell → Rs D) (m : Nat) (gA : List Arg → List Arg) (kos : List Opd) : EX := fun ρ => (evs kos ρ).bind fun bs ρ1 => if bs.length = m then appF n fn [] (gA bs) ρ1 else .bad
end
end Spk
namespace Spk
open PySem PySem.Spec PyProof.Rows L2
/-! ### x.insert(k, d) -/
def insG (k : Int) (d : D) (ds : List D) : Option (List D) := if ds.length < sizeLine ∧ 0 ≤ k ∧ k < 2 ^ 63 then some (ds.take k.toNat ++ [d] ++ ds.drop k.toNat) else none
def sIns (i : Nat) (fk fe : EX) : SX := fun ρ => Sr.of (fk ρ) fun k ρ1 => Sr.of (fe ρ1) fun d ρ2 => match k with
  | .int k => (match putAt i (insG k d) ρ2 with
    | some ρ3 => .nx ρ3
    | none => .bad)
  | _ => .bad
end Spk
namespace Spk
open PySem PySem.Spec PyProof.Rows L2
/-! ### f-strings -/
def fmtD : D → Option Str
  | .str y => if y.length ≤ sizeLine then some y else none
  | .int i => if i.natAbs.log2 < 1920 then some (toString i) else none
  | _ => none
inductive FPart where
  | lit (t : Str) | ex (f : EX)
def FPart.ev : FPart → PEnv → Rs Str
  | .lit t, ρ => .ok t ρ
  | .ex f, ρ => (f ρ).bind fun d ρ1 => Rs.lift (fmtD d) ρ1
def joinE : List FPart → Str → PEnv → Rs Str
  | [], acc, ρ => .ok acc ρ
  | p :: ps, acc, ρ => (p.ev ρ).bind fun y ρ1 => if (acc ++ y).length ≤ sizeLine then joinE ps (acc ++ y) ρ1 else .bad
def eJs (fs : List FPart) : EX := fun ρ => (joinE fs Str.empty ρ).bind fun s ρ1 => if PyData.canLay0 (.str s) = true then .ok (.str s) ρ1 else .bad
/-! ### makers by keywords in another order -/
/-! ### static methods that may raise -/
end Spk
namespace Spk
open PySem PySem.Spec PyProof.Rows L2
/-! ### sep.join(a list or a tuple of texts) -/
def strs? : List D → Option (List Str)
  | [] => some []
  | .str x :: r => (strs? r).map (x :: ·)
  | _ :: _ => none
def seqSt : D → Option (List Str)
  | .lst ds => strs? ds
  | .tup ds => strs? ds
  | _ => none
def joinD (a : Str) (d : D) : Option D := (seqSt d).bind fun ys => if (ys.map (·.length)).sum + ys.length * a.length ≤ 16777216 ∧ PyData.canLay0 (.str (Txt.join a ys)) = true then some (.str (Txt.join a ys)) else none
def eJoin (fo : EX) (a : Opd) : EX := fun ρ => (fo ρ).bind fun d ρ1 => match d with
  | .str x => (a.ev ρ1).bind fun z ρ2 => Rs.lift ((z.dat ρ2).bind (joinD x)) ρ2
  | _ => .bad
end Spk
namespace Spk
open PySem PySem.Spec PyProof.Rows L2
/-! ### a sign whose sides may be of several classes -/
/-! ### a list times an int -/
theorem RpL.rep {G : Gx} {H : Hp} {vs : List V} {ds : List D} (r : RpL G H vs ds) : ∀ n : Nat, RpL G H (List.replicate n vs).flatten (List.replicate n ds).flatten
  | 0 => .nil
  | n + 1 => by
    rw [List.replicate_succ, List.replicate_succ, List.flatten_cons, List.flatten_cons]
    exact r.app (RpL.rep r n)
def repD : D → D → Option D
  | .lst xs, .int k => if -(2 ^ 63) ≤ k ∧ k < 2 ^ 63 ∧ xs.length * k.toNat ≤ sizeLine then some (.lst (List.replicate k.toNat xs).flatten) else none
  | _, _ => none
theorem od_rep {G : Gx} {X : Cx} : OpD G X (binaryOp .Mult) repD := by
  refine ⟨_, op_rep, fun F σ H Hf ρ v w x y d Q R rx ry e q => ?_⟩
  cases x <;> cases y <;> simp only [repD] at e <;> try cases e
  obtain ⟨c, rfl⟩ := ite_some' e
  obtain ⟨a, vs, rfl, ha, ra⟩ := rx.lst R.sub
  obtain rfl := ry.i
  refine ⟨_, _, _, rfl, rfl, ha, c.1, c.2.1, by rw [ra.len]; exact c.2.2, fun p np => ?_⟩
  obtain ⟨R', s', r'⟩ := R.laid np (ra.rep _)
  exact q _ _ _ R' s' r'
end Spk
namespace Spk
open PySem PySem.Spec PyProof.Rows L2
/-! ### repr of an own class -/
/-! ### makers by keywords, some of them left out -/
section
variable {G : Gx} {σ : L2.St} {Hf : Hp}
theorem ArgsOk.take : ∀ {vs : List V} {as : List Arg} (n : Nat), ArgsOk G σ Hf vs as → ArgsOk G σ Hf (vs.take n) (as.take n)
  | _, _, 0, _ => .nil
  | _, _, n + 1, .nil => .nil
  | _, _, n + 1, .cons a t => .cons a (ArgsOk.take n t)
theorem ArgsOk.drop : ∀ {vs : List V} {as : List Arg} (n : Nat), ArgsOk G σ Hf vs as → ArgsOk G σ Hf (vs.drop n) (as.drop n)
  | _, _, 0, h => h
  | _, _, n + 1, .nil => .nil
  | _, _, n + 1, .cons a t => ArgsOk.drop n t
end
/-! ### two tuples side by side -/
end Spk
/-! sets of texts: made of a list, and sorted, fewer than 64 members -/
namespace Spk
open PySem PySem.Spec PyProof.Rows L2
def txE (e : Int × Value) : Str := match e.2 with
  | .str k _ => k
  | _ => ""
def IsTx (w : World) (e : Int × Value) : Prop := ∃ k u, e = (hashStr w k, Value.str k u)
/-- entries ys and table u hold the texts M, c of them -/
def TxF (w : World) (M : List Str) (c : Nat) (ys : Array (Int × Value)) (u : SetTable) : Prop :=
  (∀ e ∈ ys.toList, IsTx w e) ∧ (ys.toList.map txE).Nodup ∧ (∀ k, k ∈ ys.toList.map txE ↔ k ∈ M) ∧ ys.size = c ∧ c < scanBound ∧ u.fits ys.size = true ∧ Ris u.place.toList ∧ (w.params.followText "set-order" = true ∨ u.led = true)
def SetT (w : World) (h : Heap) (a : Addr) (M : List Str) (c : Nat) : Prop := ∃ o ys ep u, h.get? a = some o ∧ o.ExactSet ∧ o.data = .set ys ep u ∧ TxF w M c ys u
section
variable {P : Program} {w : World} {M : List Str} {c : Nat} {ys : Array (Int × Value)} {u : SetTable} {k : Str} {h h' : Heap} {a : Addr}
theorem TxF.push (F : TxF w M c ys u) (tk : Tok) (nk : k ∉ M) (room : c + 1 < scanBound) : TxF w (k :: M) (c + 1) (layNew u ys (hashStr w k) (.str k tk)).1 (layNew u ys (hashStr w k) (.str k tk)).2.1 := by
  obtain ⟨f1, f2, f3, f4, f5, f6, f7, f8⟩ := F
  have p := layNew_perm u ys (hashStr w k) (.str k tk)
  have p : (layNew u ys (hashStr w k) (.str k tk)).1.toList.Perm ((hashStr w k, Value.str k tk) :: ys.toList) := by rw [Array.toList_push] at p; exact p.trans (List.perm_append_singleton _ _)
  have pt : ((layNew u ys (hashStr w k) (.str k tk)).1.toList.map txE).Perm (k :: ys.toList.map txE) := p.map txE
  have pz : (layNew u ys (hashStr w k) (.str k tk)).1.size = c + 1 := by have := p.length_eq; simp at this; omega
  refine ⟨fun e m => ?_, pt.nodup_iff.mpr (List.nodup_cons.mpr ⟨fun z => nk ((f3 k).mp z), f2⟩), fun j => ?_, pz, room, layNew_fits u ys (hashStr w k) (.str k tk), layNew_ris u ys (hashStr w k) (.str k tk) f7, f8.imp_right fun z => (layNew_led u ys (hashStr w k) (.str k tk)).trans z⟩
  · rcases List.mem_cons.mp (p.mem_iff.mp m) with rfl | m
    · exact ⟨k, tk, rfl⟩
    · exact f1 e m
  · rw [pt.mem_iff, List.mem_cons, List.mem_cons, f3 j]
theorem SetT.keep (R : SetT w h a M c) (e : ∀ o, h.get? a = some o → h'.get? a = some o) : SetT w h' a M c := by
  obtain ⟨o, ys, ep, u, r1, r⟩ := R
  exact ⟨o, ys, ep, u, e o r1, r⟩
end
end Spk
/-! set(xs) of a list of texts; sorted(set of texts) -/
/-! sorted(set(xs)), texts -/
/-! f(): a def without parameters -/
/-! a new list or another by a test; x.pop() -/
/-! xs.index(x) -/
/-! o.m(..), o(..) that give a new list -/
namespace Spk
open PySem PySem.Spec PyProof.Rows L2 StX
section
variable {G : Gx} {X : Cx} {W : WX} {k j n : Nat} {f : Addr} {fd : FuncData} {ps : List Str} {c m : Str} {fn : List Cell → Rs (List D)} {o e : Expr} {es : List Expr} {apos pos : Pos} {fo : EX} {os : List Opd}
def fMethN (n : Nat) (fn : List Cell → Rs (List D)) (c m : Str) (dfl : List D) (fo : EX) (os : List Opd) : PEnv → Rs (List D) := fun ρ => (fo ρ).bind fun d ρ1 => if isIns c d = true ∧ noKey m d = true then (evs os ρ1).bind fun as ρ2 => (appF n fn dfl (.val d :: as) ρ2).nx else .bad
end
end Spk
/-! a maker (self, *v, kw=..) that may raise, called with its keyword -/
/-! C(e, .., kw = z) of a maker (self, *v, kw=..), where nothing is let out -/
namespace Spk
open PySem PySem.Spec PyProof.Rows L2
/-! ### generators: what their bodies hand out -/
inductive Gr where
  | nx (ys : List D) (ρ : PEnv) | rt (ys : List D) (ρ : PEnv) | bk (ys : List D) (ρ : PEnv) | ct (ys : List D) (ρ : PEnv) | exc (C f : Str) (d : D) (ρ : PEnv) | bad
abbrev GXf := List D → PEnv → Gr
def PostG (G : Gx) (F : Fr) (W : WX) (Hf : Hp) (En : GEnds) : Gr → Prop
  | .nx ys ρ' => ∀ vs σ' H' Hf', Rep G F σ' H' Hf' ρ' → Same Hf Hf' → RpL G Hf' vs ys → En.nx vs σ' H'
  | .rt ys ρ' => ∀ vs σ' H' Hf', Rep G F σ' H' Hf' ρ' → Same Hf Hf' → RpL G Hf' vs ys → En.rt vs .non H'
  | .bk ys ρ' => ∀ vs σ' H' Hf', Rep G F σ' H' Hf' ρ' → Same Hf Hf' → RpL G Hf' vs ys → En.bk vs σ' H'
  | .ct ys ρ' => ∀ vs σ' H' Hf', Rep G F σ' H' Hf' ρ' → Same Hf Hf' → RpL G Hf' vs ys → En.ct vs σ' H'
  | .exc C f d ρ' => ∀ v dd σ' H' Hf', Rep G F σ' H' Hf' ρ' → Same Hf Hf' → Rp G Hf' v d → Hf' dd = some (.xd [(f, v)]) → W (.ref (G.cm C)) (some dd) σ' H'
  | .bad => False
theorem PostG.mono {G : Gx} {F : Fr} {W : WX} {Hf Hf' : Hp} {En : GEnds} {r : Gr} (h : PostG G F W Hf En r) (s : Same Hf Hf') : PostG G F W Hf' En r := by
  cases r with
  | nx ys ρ => exact fun vs σ2 H2 Hf2 R t => h vs σ2 H2 Hf2 R (s.trans t)
  | rt ys ρ => exact fun vs σ2 H2 Hf2 R t => h vs σ2 H2 Hf2 R (s.trans t)
  | bk ys ρ => exact fun vs σ2 H2 Hf2 R t => h vs σ2 H2 Hf2 R (s.trans t)
  | ct ys ρ => exact fun vs σ2 H2 Hf2 R t => h vs σ2 H2 Hf2 R (s.trans t)
  | exc C f d ρ => exact fun v dd σ2 H2 Hf2 R t => h v dd σ2 H2 Hf2 R (s.trans t)
  | bad => exact h
section
variable {G : Gx} {X : Cx} {W : WX} {e tg : Expr} {es : List Expr} {st : Stmt} {rest : List Stmt} {f : SX} {g1 g2 : GXf} {fe : EX} {pos : Pos}
/-- a statement that hands out nothing -/
def gPl (f : SX) : GXf := fun ys ρ => match f ρ with
  | .nx ρ' => .nx ys ρ'
  | .rt .non ρ' => .rt ys ρ'
  | .bk ρ' => .bk ys ρ'
  | .ct ρ' => .ct ys ρ'
  | .exc C x d ρ' => .exc C x d ρ'
  | _ => .bad
def gNil : GXf := fun ys ρ => .nx ys ρ
def Gr.seq (r : Gr) (k : GXf) : Gr := match r with
  | .nx ys ρ => k ys ρ
  | r => r
@[simp] theorem Gr.seq_nx {ys : List D} {ρ : PEnv} {k : GXf} : (Gr.nx ys ρ).seq k = k ys ρ := rfl
@[simp] theorem Gr.seq_exc {C x : Str} {d : D} {ρ : PEnv} {k : GXf} : (Gr.exc C x d ρ).seq k = .exc C x d ρ := rfl
@[simp] theorem Gr.seq_rt {ys : List D} {ρ : PEnv} {k : GXf} : (Gr.rt ys ρ).seq k = .rt ys ρ := rfl
def gSeq (f g : GXf) : GXf := fun ys ρ => (f ys ρ).seq g
/-- yield e -/
def gYield (fe : EX) : GXf := fun ys ρ => if ys.length < sizeLine then (match fe ρ with
  | .ok d ρ1 => .nx (ys ++ [d]) ρ1
  | .exc C x d ρ1 => .exc C x d ρ1
  | .bad => .bad) else .bad
/-! ### for -/
def loopG (g : TGf) (body : GXf) : List D → List D → PEnv → Gr
  | [], ys, ρ => .nx ys ρ
  | d :: ds, ys, ρ => match g d ρ with
    | none => .bad
    | some ρ1 => match body ys ρ1 with
      | .nx ys2 ρ2 => loopG g body ds ys2 ρ2
      | .ct ys2 ρ2 => loopG g body ds ys2 ρ2
      | .bk ys2 ρ2 => .nx ys2 ρ2
      | r => r
def gFor (it : PEnv → Rs (List D)) (g : TGf) (body : GXf) : GXf := fun ys ρ => match it ρ with
  | .ok ds ρ1 => loopG g body ds ys ρ1
  | .exc C x d ρ1 => .exc C x d ρ1
  | .bad => .bad
end
/-! ### a generator def's promise -/
/-! ### list(o.m(..)) -/
def onlyX {α : Type} (es : List Str) : Rs α → Rs α
  | .exc C f d ρ => if es.contains C then .exc C f d ρ else .bad
  | r => r
section
variable {G : Gx} {X : Cx} {W : WX} {k j n : Nat} {f : Addr} {fd : FuncData} {ps : List Str} {c m nm : Str} {fn : List Cell → Rs (List D)} {o e : Expr} {es : List Expr} {apos pos p pos' : Pos} {fo : EX} {os : List Opd}
/-- list(o.m(..)), what m raises goes on -/
def fMethX (es : List Str) (n : Nat) (fn : List Cell → Rs (List D)) (c m : Str) (dfl : List D) (fo : EX) (os : List Opd) : PEnv → Rs (List D) := fun ρ => (fo ρ).bind fun d ρ1 => if isIns c d = true ∧ noKey m d = true then (evs os ρ1).bind fun as ρ2 => onlyX es (appF n fn dfl (.val d :: as) ρ2) else .bad
end
end Spk
/-! sorted(xs, key=f), what holds between the calls of f told by an invariant -/
/-! a lambda with one parameter, called where it was made -/
namespace LamK
open PySem PySem.Spec PyProof.Rows L2 LamX
end LamK
/-! sorted(xs, key = lambda p: ..) over the pure layer -/
/-! defs that make lambdas; the end of a law in which some stand -/
namespace Spk
open PySem PySem.Spec PyProof.Rows L2 LamX
section
variable {P : Program} {w : World} {K : PySem.W.Frag} {mg : Str → Option Value} {bh : Heap} {x qu : Str} {st : Stmt} {f : Addr} {fd : FuncData} {N ps : List Str} {k : Nat} {sp : Sp} {c T : Addr}
/-- a def whose code object stands at c, with its table at T -/
structure FunL (K : PySem.W.Frag) (mg : Str → Option Value) (bh : Heap) (x qu : Str) (st : Stmt) (f : Addr) (fd : FuncData) (c T : Addr) : Prop where
  ex : ∃ (oc : Value) (od : Option Addr) (dV kV doc pm : Value) (an : Option Addr) (ct : Value) (sl : Array (Option Value)),
    fd = PySem.W.fnOf x qu (defArgs st) (defBody st) (defScope st) dV kV doc pm an (.ref c) ct ∧ K.lookup f = some ⟨oc, od, .func fd, sl⟩ ∧ PySem.W.codeIn K (.ref c) qu = true
  tb : TabB bh mg c T
theorem FunL.ok (F : FunL K mg bh x qu st f fd c T) (S : FnScope N ps (defScope st)) (ln : ∀ vs H Q E, sp vs H Q E → vs.length = ps.length)
    (hb : ∀ (B : Around) (ou : List Env) (t : Shared) (J : Hp) (ws : List V) (R : VK) (U : XK), Room k (B.deeper (envOfC qu (defScope st) t.heap.objs.size f (.ref c))) → sp ws J R U →
      ∃ tr, PSs (cxOf CX0 P w K mg bh N qu (defScope st) f (.ref c) B ou t J U).nox (defBody st) tr ∧ tr { nx := fun _ J' => R .non J', rt := R } (L2.start N ws) J) : FnOk P w K mg bh CX0 (k + 1) f fd ps sp := by
  obtain ⟨oc, od, dV, kV, doc, pm, an, ct, sl, rfl, lk, hcd⟩ := F.ex
  refine fn_of lk hcd S ln fun B ou t J ws R U rm h => ?_
  obtain ⟨tr, q, z⟩ := hb B ou t J ws R U rm h
  exact ⟨tr, q.nox, z⟩
end
/-! ### the end -/
end Spk
/-! max(xs), min(xs) of a list of ints -/
/-! o.m(e, .., k=v, ..), f(e, .., k=v, ..) -/
namespace Spk
open PySem PySem.Spec PyProof.Rows L2
section
variable {G : Gx} {X : Cx} {W : WX} {k j l n : Nat} {f : Addr} {fd : FuncData} {ps kn : List Str} {c m x : Str} {fn : List Cell → Rs D} {o e : Expr} {es : List Expr} {apos p pos : Pos} {kws : List Keyword} {fo : EX} {os kos : List Opd}
def eMethKX (n : Nat) (fn : List Cell → Rs D) (c m : Str) (l k : Nat) (gA : List Arg → List Arg → List Arg) (fo : EX) (os kos : List Opd) : EX := fun ρ => (fo ρ).bind fun d ρ1 => if isIns c d = true ∧ noKey m d = true then
  (evs os ρ1).bind fun as ρ2 => (evs kos ρ2).bind fun bs ρ3 => if as.length = l ∧ bs.length = k then appF n fn [] (.val d :: gA as bs) ρ3 else .bad else .bad
def eMethKN (n : Nat) (fn : List Cell → Rs D) (c m : Str) (l k : Nat) (gA : List Arg → List Arg → List Arg) (fo : EX) (os kos : List Opd) : EX := fun ρ => (fo ρ).bind fun d ρ1 => if isIns c d = true ∧ noKey m d = true then
  (evs os ρ1).bind fun as ρ2 => (evs kos ρ2).bind fun bs ρ3 => if as.length = l ∧ bs.length = k then (appF n fn [] (.val d :: gA as bs) ρ3).nx else .bad else .bad
def eCallKPX (n : Nat) (fn : List Cell → Rs D) (l k : Nat) (gA : List Arg → List Arg → List Arg) (os kos : List Opd) : EX := fun ρ => (evs os ρ).bind fun as ρ1 => (evs kos ρ1).bind fun bs ρ2 => if as.length = l ∧ bs.length = k then appF n fn [] (gA as bs) ρ2 else .bad
def eCallKPN (n : Nat) (fn : List Cell → Rs D) (l k : Nat) (gA : List Arg → List Arg → List Arg) (os kos : List Opd) : EX := fun ρ => (evs os ρ).bind fun as ρ1 => (evs kos ρ1).bind fun bs ρ2 => if as.length = l ∧ bs.length = k then (appF n fn [] (gA as bs) ρ2).nx else .bad
end
/-! ### a method that hands back a list of one's own -/
section
variable {G : Gx} {X : Cx} {W : WX} {k j l n : Nat} {f : Addr} {fd : FuncData} {ps kn : List Str} {c m x : Str} {fn : List Cell → Rs (List D)} {o e : Expr} {es : List Expr} {apos p pos : Pos} {kws : List Keyword} {fo : EX} {os kos : List Opd}
def fMethFX (n : Nat) (fn : List Cell → Rs (List D)) (c m : Str) (dfl : List D) (fo : EX) (os : List Opd) : PEnv → Rs (List D) := fun ρ => (fo ρ).bind fun d ρ1 => if isIns c d = true ∧ noKey m d = true then (evs os ρ1).bind fun as ρ2 => appF n fn dfl (.val d :: as) ρ2 else .bad
def fMethKX (n : Nat) (fn : List Cell → Rs (List D)) (c m : Str) (l k : Nat) (gA : List Arg → List Arg → List Arg) (fo : EX) (os kos : List Opd) : PEnv → Rs (List D) := fun ρ => (fo ρ).bind fun d ρ1 => if isIns c d = true ∧ noKey m d = true then
  (evs os ρ1).bind fun as ρ2 => (evs kos ρ2).bind fun bs ρ3 => if as.length = l ∧ bs.length = k then appF n fn [] (.val d :: gA as bs) ρ3 else .bad else .bad
def fMethKN (n : Nat) (fn : List Cell → Rs (List D)) (c m : Str) (l k : Nat) (gA : List Arg → List Arg → List Arg) (fo : EX) (os kos : List Opd) : PEnv → Rs (List D) := fun ρ => (fo ρ).bind fun d ρ1 => if isIns c d = true ∧ noKey m d = true then
  (evs os ρ1).bind fun as ρ2 => (evs kos ρ2).bind fun bs ρ3 => if as.length = l ∧ bs.length = k then (appF n fn [] (.val d :: gA as bs) ρ3).nx else .bad else .bad
end
end Spk
/-! a < b < c < d as a test -/
/-! xs[::-1] of a list -/
/-! a < b < c < d as a value -/
/-! x(lambda: e): a def that calls what it got in a try whose suites return -/
/-! C(e, .., kw = z) of a maker (self, *v, kw=..), what it raises let out -/
/-! list(o.m(k=v)) of a generator method -/
/-! {"a": x, ..}[w] -/
/-! a dict of one's own: {}, x[k] = e, x.get(k, d), list(x.items()) -/
/-! defaults that are empty tuples; a maker (self, *v, kw=()) called without its keyword -/
namespace Spk
open PySem PySem.Spec PyProof.Rows L2 StX
/-- an empty tuple that stands in the written part -/
def EmpT (K : PySem.W.Frag) (a : Addr) : Prop := ∃ (o : Obj) (n : Nat), K.lookup a = some o ∧ o.cls = .type "tuple" ∧ o.data = .seq #[] n
theorem EmpT.rp {G : Gx} {Hf : Hp} {a : Addr} (h : EmpT G.K a) : Rp G Hf (.ref a) (.tup []) := by
  obtain ⟨o, n, h1, h2, h3⟩ := h
  exact .tup (.inr ⟨o, #[], n, h1, h2, h3, Nat.zero_le _, .nil⟩) .nil
end Spk
/-! a list of one's own, read as a value for the time of one expression, and one's own again behind it -/
/-! tuples of ints compared by <= -/
/-! an exception out of a comprehension's element -/
namespace L2
open PySem PySem.Spec PyProof.Rows HandSPX
/-! ### the block whose element may raise -/
end L2
/-! e.rjust(n), e.ljust(n); e.split() -/
/-! f"{x:>8}", f"{n:,}": fields with a written specification -/
namespace KFs
open PySem PySem.Spec PyProof.Rows PySem.W Builtin Builtin.Str Builtin.Int Builtin.Float
/-- `>w`: flush right -/
def toR (w : Nat) : FormatSpec := { align := 62, width := some w }
end KFs
namespace L2
open PySem PySem.Spec PyProof.Rows KFs
end L2
namespace KFs
open PySem PySem.Spec PyProof.Rows PySem.W Builtin Builtin.Str Builtin.Int Builtin.Float L2
def rI (w : Nat) (i : Int) : Option Str := if i.natAbs.log2 < 1920 ∧ (intSpecText (toR w) i).length ≤ sizeLine then some (intSpecText (toR w) i) else none
end KFs
namespace L2
open PySem PySem.Spec PyProof.Rows
end L2
/-! range(i, j) of ints of any size -/
namespace L2
open PySem PySem.Spec PyProof.Rows
end L2
/-! f(a new list): lent for the call alone -/
/-! xs.count(x) -/
/-! sorted({x for r in rs for x in r.y}), rs empty -/
/-! isinstance by a class that others stand on -/
/-! enumerate(t, start=k), t a tuple -/
/-! a test whose operand may be of one class or of another -/
/-! exceptions as values: C(e), e.f, isinstance(e, T), isinstance(e, (S, T)) -/
namespace Spk
open PySem PySem.Spec PyProof.Rows L2
section
variable {X : Cx}
/-- isinstance(e, c) -/
def rIsX (K : PySem.W.Frag) : List V → Hp → VK → Prop := fun xs H Q => ∃ (a D dd : Addr) (fs : List (Str × V)) (c : V) (cv : Value) (b : Bool), xs = [.ref a, c] ∧ H a = some (exo a D (some dd)) ∧ H dd = some (exd dd fs) ∧ ClsV c cv ∧ ExcC K D ∧ PySem.W.kitOne K (.ref D) cv = some b ∧ Q (.bl b) H
theorem call_isX : CallR X (.builtin "isinstance") (rIsX X.K) := by
  intro pins s σ H xs us Q I r h
  obtain ⟨a, D, dd, fs, c, cv, b, rfl, ha, hd, kc, C, e, q⟩ := h
  obtain ⟨u1, u2, rfl, r1, r2⟩ := vals2 r
  obtain rfl : u1 = Value.ref a := r1
  have e2 := kc.eq r2
  subst e2
  obtain ⟨t1, he⟩ := exo_at I.hok ha
  obtain ⟨mA, hns, _⟩ := exd_at I.hok hd
  obtain ⟨od, ho, _⟩ := lookIn_ns hns
  have J : PySem.W.InstAt s.heap a _ D (some od) := ⟨he, rfl, rfl, ho⟩
  have hcl : (PySem.W.clsIn X.K D).isSome = true := by
    obtain ⟨cd, hc, _⟩ := PySem.W.any_some C.hd
    rw [hc]; rfl
  exact PySem.W.kia_one (PySem.W.kitx_exc hcl C.hg C.hk C.hs C.ha C.hn C.ht C.hm) I.kIn J e (fun z => nomatch z) fun tk => ⟨.bl b, H, I.kept (t' := tk) fun _ _ z => z, rfl, q⟩
def rIsXT (K : PySem.W.Frag) : List V → Hp → VK → Prop := fun xs H Q => ∃ (a D dd tp : Addr) (fs : List (Str × V)) (cs : List V) (ws : List Value) (b : Bool), xs = [.ref a, .ref tp] ∧ H a = some (exo a D (some dd)) ∧ H dd = some (exd dd fs) ∧ H tp = some (.tup cs) ∧ Paired ClsV cs ws ∧ ExcC K D ∧
  PySem.W.kitAny K (.ref D) ws = some b ∧ Q (.bl b) H
theorem call_isXT : CallR X (.builtin "isinstance") (rIsXT X.K) := by
  intro pins s σ H xs us Q I r h
  obtain ⟨a, D, dd, tp, fs, cs, ws, b, rfl, ha, hd, hT, kc, C, e, q⟩ := h
  obtain ⟨u1, u2, rfl, r1, r2⟩ := vals2 r
  obtain rfl : u1 = Value.ref a := r1
  obtain rfl : u2 = Value.ref tp := r2
  obtain ⟨t1, he⟩ := exo_at I.hok ha
  obtain ⟨mA, hns, _⟩ := exd_at I.hok hd
  obtain ⟨od, ho, _⟩ := lookIn_ns hns
  have J : PySem.W.InstAt s.heap a _ D (some od) := ⟨he, rfl, rfl, ho⟩
  have hcl : (PySem.W.clsIn X.K D).isSome = true := by
    obtain ⟨cd, hc, _⟩ := PySem.W.any_some C.hd
    rw [hc]; rfl
  obtain ⟨_, its, rv, o, h1, h2, n, h3⟩ := (show ObjOk X.prog X.w H s.heap tp (.tup cs) from I.hok tp _ hT)
  have e3 := ClsV.all kc rv
  subst e3
  obtain ⟨oc, od2, dt, sl⟩ := o
  simp only at h2 h3
  subst h2 h3
  exact PySem.W.kia_tup (PySem.W.kitx_exc hcl C.hg C.hk C.hs C.ha C.hn C.ht C.hm) I.kIn J h1 e (fun z => nomatch z) fun tk => ⟨.bl b, H, I.kept (t' := tk) fun _ _ z => z, rfl, q⟩
/-- e.f -/
def tXnf (C : Addr) (f : Str) (te : TE) : TE := fun σ H Q => te σ H fun x H1 => ∃ (a dd : Addr) (fs : List (Str × V)) (v : V), x = .ref a ∧ H1 a = some (exo a C (some dd)) ∧ H1 dd = some (exd dd fs) ∧ fs.lookup f = some v ∧ Q v H1
theorem pe_xnf {C : Addr} {e : Expr} {te : TE} {pos : Pos} {f : Str} (T : XfC X.K C) (hno : PySem.W.findIn X.K (.ref C) f = some none) (he : PE X e te) (hb : attributeBase e f X.env (eval e X.env) = eval e X.env := by rfl) : PE X (.Attribute e f pos) (tXnf C f te) := by
  refine ⟨fun pins s σ H Q I h => attr_of hb (thn (he.run pins s σ H _ I h) fun u s1 hh => ?_)⟩
  obtain ⟨x, H1, I1, rx, a, dd, fs, v, rfl, ha, hd, l, q⟩ := hh
  obtain rfl : u = Value.ref a := rx
  obtain ⟨t1, he1⟩ := exo_at I1.hok ha
  obtain ⟨mA, hns, hr⟩ := exd_at I1.hok hd
  obtain ⟨od, ho, hl⟩ := lookIn_ns hns
  obtain ⟨u, hu, ru⟩ := RelO.some_of (v := v) (o := mA f) (by rw [← l]; exact hr f)
  have J : PySem.W.InstAt s1.heap a _ C (some od) := ⟨he1, rfl, rfl, ho⟩
  exact HandSPX.exc_get I1.kIn J T.ga T.gg T.exC (PySem.W.findObj_own T.hdC hno rfl (by rw [hl, hu])) (handed_of ru) ⟨v, H1, I1.tok _, ru, q⟩
/-- C(e), kept -/
def tMkV (C : Addr) (sp : Sp) (dvs : List V) (ta : TA) : TE := fun σ H Q => ta σ H fun vs H1 => vs.length ≤ 1000 ∧ ∀ a, H1 a = none → sp (.ref a :: (vs ++ dvs)) (upd H1 a (exo a C none)) (fun v H2 => v = .non ∧ Q (.ref a) H2) (fun _ _ _ => False)
theorem pe_oexV {e : Expr} {es : List Expr} {ta : TA} {p pos : Pos} {CX : CXT} {x : Str} {C fI : Addr} {k : Nat} {fd : FuncData} {ps : List Str} {sp : Sp} {ds : List Value} {dvs : List V} (T : OexB X.K C) (iC : PySem.W.findIn X.K (.ref C) "__init__" = some (some (.ref fI))) (tI : PySem.W.typeIn X.K (.ref fI) = some (.type "function"))
    (F1 : FnOk X.prog X.w X.K X.mg X.base CX k fI fd ps sp) (hr : Room (k + 1) X.A) (hb : Binds X.K fd ps ds) (hd : Vals dvs ds) (hx : Passes CX X (fun _ _ _ => False)) (hg : Gl X x) (hm : X.mg x = some (.ref C)) (ha : PA X (e :: es) ta)
    (hdb : (x == ("__debug__" : Str)) = false := by decide) (he : starEach (e :: es) X.env = (false, eval e X.env) :: starEach es X.env := by rfl) (hpl : (backTo pos (starEach es X.env)).any (·.1) = false := by rfl) : PE X (.Call (.Name x p) (e :: es) [] pos) (tMkV C sp dvs ta) := by
  refine ⟨fun pins s σ H Q I h => ?_⟩
  obtain ⟨B, ni, ii, bm, FB, _, ob, nm, q, N, bs, sn, sub, ab, col, dd, k0, k1, k2, k3, k5, hC⟩ := T.cls
  refine wpAny_Call_Name_kw (ld_glob I hg hm ?_ hdb)
  refine PySem.W.callWith_K (h₀ := X.base) I.ok.mod.kin T.kC (thn (ha.run pos pins s σ H _ I h) fun us s1 z => ?_) he hpl
  obtain ⟨vs, H1, I1, r1, hz, q1⟩ := z
  refine ⟨I1.kIn, ?_⟩
  show wpAny _ _ (call (.ref C) us) _ _ _
  obtain ⟨h0, ge, dr, tk, os⟩ := s1
  have ls : h0.objs.size ≤ h0.objs.size + 1 := Nat.le_succ _
  have nn : H1 (h0.objs.size + 1) = none := I1.hok.fresh ls
  have hq := q1 _ nn
  have kk : ∀ b o, h0.get? b = some o → ((h0.push (PySem.W.kdv_tup us)).push (PySem.HandSPX.excO C h0.objs.size)).get? b = some o := fun b o z => Heap.get?_push_of_some _ (Heap.get?_push_of_some _ z)
  have hget : ((h0.push (PySem.W.kdv_tup us)).push (PySem.HandSPX.excO C h0.objs.size)).get? (h0.objs.size + 1) = some (PySem.HandSPX.excO C h0.objs.size) := by
    heap_get
  have I2 : Inv X pins σ (upd H1 (h0.objs.size + 1) (exo (h0.objs.size + 1) C none)) ⟨(h0.push (PySem.W.kdv_tup us)).push (PySem.HandSPX.excO C h0.objs.size), ge, dr, tk, os⟩ := I1.laid (t' := tk) (a := h0.objs.size + 1) (o := exo (h0.objs.size + 1) C none) kk ls (exo_ok hget)
  have r2 : Vals (V.ref (h0.objs.size + 1) :: (vs ++ dvs)) (Value.ref (h0.objs.size + 1) :: (us ++ ds)) := .cons rfl (r1.append hd)
  have hl : (Value.ref (h0.objs.size + 1) :: us ++ ds).length = ps.length := (r2.length.symm.trans (F1.len _ _ _ _ hq))
  have hus : us.length ≤ sizeLine := by have := Paired.length r1; rw [sizeLine_eq]; omega
  refine wpAny_call (PySem.HandSPX.call_own FB (fun Y => rfl) (I1.kIn _ _ hC) (PySem.W.looks_findIn I1.kIn iC) (fun self => PySem.W.bind_fn I1.kIn self tI) hus (codeAny_mono (F1.run _ X.stack _ _ ⟨Value.ref (h0.objs.size + 1) :: us, []⟩ (Value.ref (h0.objs.size + 1) :: (us ++ ds)) _ _ (fun _ _ _ => False) (hr.make C us []) (I2.env0.make C us []) (hb _ (Value.ref (h0.objs.size + 1) :: us) I2.kIn hl) r2 hq) fun r s' z => ?_))
  match r, z with
  | .error er, z => exact hx pins σ _ _ er s' I2 z
  | .ok (.ret w), z =>
    obtain ⟨v, H2, o2, b2, un2, hok2, rv, ev, q2⟩ := z
    subst ev
    exact ⟨rv, .ref (h0.objs.size + 1), H2, I2.call' (ch := []) o2 un2 hok2 b2 (fun _ z => nomatch z), rfl, q2⟩
  | .ok .next, z => exact z.elim
  | .ok .brk, z => exact z.elim
  | .ok .cont, z => exact z.elim
end
section
variable {G : Gx} {X : Cx} {W : WX} {e a b o : Expr} {pos p : Pos} {x f : Str} {fI : Addr} {fd : FuncData} {fe fo : EX} {c : Str} {k : Nat}
def eXn (C f : Str) (fe : EX) : EX := fun ρ => (fe ρ).bind fun d ρ1 => .ok (.xn C f d) ρ1
theorem upd_twice {H : Hp} {a dx : Addr} {u o w : HO} (n : dx ≠ a) : upd (upd (upd H a u) dx o) a w = upd (upd H a w) dx o := by
  funext b
  by_cases h1 : b = a
  · subst h1; rw [upd_same, upd_ne (Ne.symm n), upd_same]
  · by_cases h2 : b = dx
    · subst h2; rw [upd_ne h1, upd_same, upd_same]
    · rw [upd_ne h1, upd_ne h2, upd_ne h1, upd_ne h2, upd_ne h1]
theorem de_xnMk (T : ErrB X.prog X.w X.K X.mg X.base x f (G.cm c) fI fd) (rm : Room k X.A) (hk : 2 ≤ k) (hg : Gl X x) (he : DE G X W e fe) (hdb : (x == ("__debug__" : Str)) = false := by decide)
    (hs : starEach [e] X.env = (false, eval e X.env) :: starEach [] X.env := by rfl) (hpl : (backTo pos (starEach [] X.env)).any (·.1) = false := by rfl) : DE G X W (.Call (.Name x p) [e] [] pos) (eXn c f fe) := by
  obtain ⟨t, p1, q1⟩ := DE.elim he
  refine DE.intro ⟨_, pe_oexV T.oex T.iC T.tI T.ini (rm.mono hk) T.bd .nil pass0 hg T.gC (pa_cons p1 pa_nil hs) hdb hs hpl, fun F σ H Hf ρ Q R p => ?_⟩
  refine q1 F σ H Hf ρ _ R ((PostE.bind p).imp fun d H1 Hf1 ρ1 _ R1 s1 p v r => ⟨by show 1 ≤ 1000; omega, fun a na => ⟨a, v, rfl, upd_same, fun dx ndx ne => ⟨rfl, ?_⟩⟩⟩)
  rw [upd_twice ne]
  have nd : H1 dx = none := by rw [upd_ne ne] at ndx; exact ndx
  have R2 := R1.new na (exo a (G.cm c) (some dx)) (fun _ z => by unfold exo at z; cases z)
  have nd2 : upd H1 a (exo a (G.cm c) (some dx)) dx = none := by rw [upd_ne ne]; exact nd
  have R3 := R2.new nd2 (exd dx [(f, v)]) (fun _ z => by unfold exd at z; cases z)
  have s2 := Same.new (o := exo a (G.cm c) (some dx)) (R1.nf na)
  have s3 := Same.new (o := exd dx [(f, v)]) (R2.nf nd2)
  refine p _ _ R3 (s2.trans s3) _ (.xn (v := v) (s3 _ _ upd_same) upd_same (r.mono (s2.trans s3)))
def eXnF (C g : Str) (fo : EX) : EX := fun ρ => (fo ρ).bind fun d ρ1 => match d with
  | .xn C' f d => if C' = C ∧ f = g then .ok d ρ1 else .bad
  | _ => .bad
theorem de_xnF {g : Str} (T : XfC X.K (G.cm c)) (hno : PySem.W.findIn X.K (.ref (G.cm c)) g = some none) (ho : DE G X W o fo) (hb : attributeBase o g X.env (eval o X.env) = eval o X.env := by rfl) : DE G X W (.Attribute o g pos) (eXnF c g fo) := by
  obtain ⟨t, p1, q1⟩ := DE.elim ho
  refine DE.intro ⟨_, pe_xnf T hno p1 hb, fun F σ H Hf ρ Q R p => ?_⟩
  refine q1 F σ H Hf ρ _ R ((PostE.bind p).imp fun d H1 Hf1 ρ1 _ R1 s1 p v r => ?_)
  cases d with
  | xn C' f d =>
    change PostE G F W σ Hf1 _ (if C' = c ∧ f = g then Rs.ok d ρ1 else Rs.bad) at p
    by_cases cc : C' = c ∧ f = g
    · rw [if_pos cc] at p
      have e1 := cc.1.symm
      have e2 := cc.2.symm
      clear cc
      subst e1 e2
      cases r with
      | xn h1 h2 rv => exact ⟨_, _, _, _, rfl, R1.sub _ _ h1, R1.sub _ _ h2, by simp [List.lookup], p H1 Hf1 R1 (Same.refl _) _ rv⟩
    · rw [if_neg cc] at p; exact p.elim
  | _ => exact p.elim
def isX (tb : List (Str × Bool)) : D → Option Bool
  | .xn C _ _ => tb.lookup C
  | _ => none
def eIsX (tb : List (Str × Bool)) (fo : EX) : EX := fun ρ => (fo ρ).bind fun d ρ1 => Rs.lift ((isX tb d).map .bl) ρ1
def eIsX2 (tb tb2 : List (Str × Bool)) (fo : EX) : EX := fun ρ => (fo ρ).bind fun d ρ1 => Rs.lift ((orO (isX tb d) (isX tb2 d)).map .bl) ρ1
theorem de_isX {cv : Value} {cc : V} {tb : List (Str × Bool)} (ha : DE G X W a fo) (kf : XisF X.K G.cm cv tb) (hcls : ClsV cc cv) (ht : PE X b (tC cc)) (hg : Gl X "isinstance") (hm : X.mg "isinstance" = none)
    (he0 : starEach [b] X.env = (false, eval b X.env) :: starEach [] X.env := by rfl) (he : starEach [a, b] X.env = (false, eval a X.env) :: starEach [b] X.env := by rfl) (hpl : (backTo pos (starEach [b] X.env)).any (·.1) = false := by rfl) : DE G X W (.Call (.Name "isinstance" p) [a, b] [] pos) (eIsX tb fo) := by
  obtain ⟨t1, p1, q1⟩ := DE.elim ha
  refine DE.intro ⟨_, pe_callB call_isX hg hm (by decide +kernel) (pa_cons p1 (pa_cons ht pa_nil he0) he) (by decide) (by decide) he hpl, fun F σ H Hf ρ Q R p => ?_⟩
  refine q1 F σ H Hf ρ _ R ((PostE.bind p).imp fun d H1 Hf1 ρ1 _ R1 s1 p v r => ?_)
  obtain ⟨u, hu, q⟩ := lift_post (H := H1) p
  obtain ⟨bb, h1, rfl⟩ := Option.map_eq_some_iff.mp hu
  cases d with
  | xn C' f d =>
    cases r with
    | xn h2 h3 rv => exact ⟨_, _, _, _, cc, cv, bb, rfl, R1.sub _ _ h2, R1.sub _ _ h3, hcls, (kf C' bb h1).1, (kf C' bb h1).2, q H1 Hf1 R1 (Same.refl _) _ (.bl _)⟩
  | _ => cases h1
theorem de_isX2 {u1 u2 : Value} {c1 c2 : V} {tb1 tb2 : List (Str × Bool)} {b1 b2 : Expr} {k3 : Nat} {p3 : Pos} (ha : DE G X W a fo) (kf1 : XisF X.K G.cm u1 tb1) (kf2 : XisF X.K G.cm u2 tb2) (hc1 : ClsV c1 u1) (hc2 : ClsV c2 u2) (h1 : PE X b1 (tC c1)) (h2 : PE X b2 (tC c2)) (hg : Gl X "isinstance") (hm : X.mg "isinstance" = none)
    (he2 : starEach [b2] X.env = (false, eval b2 X.env) :: starEach [] X.env := by rfl) (he1 : starEach [b1, b2] X.env = (false, eval b1 X.env) :: starEach [b2] X.env := by rfl)
    (he0 : starEach [.Tuple [b1, b2] k3 p3] X.env = (false, eval (.Tuple [b1, b2] k3 p3) X.env) :: starEach [] X.env := by rfl) (he : starEach [a, .Tuple [b1, b2] k3 p3] X.env = (false, eval a X.env) :: starEach [.Tuple [b1, b2] k3 p3] X.env := by rfl) (hpl : (backTo pos (starEach [.Tuple [b1, b2] k3 p3] X.env)).any (·.1) = false := by rfl) :
    DE G X W (.Call (.Name "isinstance" p) [a, .Tuple [b1, b2] k3 p3] [] pos) (eIsX2 tb1 tb2 fo) := by
  obtain ⟨t1, p1, q1⟩ := DE.elim ha
  refine DE.intro ⟨_, pe_callB call_isXT hg hm (by decide +kernel) (pa_cons p1 (pa_cons (pe_tup (pa_cons h1 (pa_cons h2 pa_nil he2) he1)) pa_nil he0) he) (by decide) (by decide) he hpl, fun F σ H Hf ρ Q R p => ?_⟩
  refine q1 F σ H Hf ρ _ R ((PostE.bind p).imp fun d H1 Hf1 ρ1 _ R1 s1 p v r => ?_)
  obtain ⟨u, hu, q⟩ := lift_post (H := H1) p
  obtain ⟨bb, h4, rfl⟩ := Option.map_eq_some_iff.mp hu
  refine ⟨(by show 2 ≤ sizeLine; decide), fun T nT => ?_⟩
  have R2 := R1.side nT (.tup [c1, c2])
  cases d with
  | xn C' f d =>
    obtain ⟨x1, x2, hx1, hx2, hxx⟩ : ∃ x1 x2, isX tb1 (.xn C' f d) = some x1 ∧ isX tb2 (.xn C' f d) = some x2 ∧ bb = (x1 || x2) := by
      cases e1 : isX tb1 (.xn C' f d) with
      | none => rw [e1] at h4; cases h4
      | some x1 =>
        rw [e1] at h4
        cases e2 : isX tb2 (.xn C' f d) with
        | none => rw [e2] at h4; cases x1 <;> cases h4
        | some x2 => rw [e2] at h4; cases x1 <;> cases h4 <;> exact ⟨_, _, rfl, rfl, rfl⟩
    have k1 := kf1 C' x1 hx1
    have k2 := kf2 C' x2 hx2
    cases r with
    | xn h5 h6 rv =>
      refine ⟨_, G.cm C', _, T, _, [c1, c2], [u1, u2], bb, rfl, R2.sub _ _ h5, R2.sub _ _ h6, upd_same, .cons hc1 (.cons hc2 .nil), k1.1, ?_, q _ _ R2 (Same.refl _) _ (.bl _)⟩
      rw [hxx]
      refine kitAny_cons k1.2 (fun z => ?_) (fun z => by rw [z]; rfl)
      rw [z, Bool.false_or]
      exact kitAny_cons k2.2 (fun z => by rw [z]; rfl) (fun z => z)
  | _ => cases h4
end
end Spk
/-! the text of spanloops_k00_errors_made -/
namespace Spk
open PySem PySem.Spec PyProof.Rows L2
def topS (i : Nat) : Stmt := PySem.Challenge.pw_spanloops_k00_errors_made.main.body.getD i (.Pass ⟨0, 0, 0, 0⟩)
structure Blt (mg : Str → Option Value) : Prop where
  b_LookupError : mg "LookupError" = none
  b_OverflowError : mg "OverflowError" = none
  b_RuntimeError : mg "RuntimeError" = none
  b_ValueError : mg "ValueError" = none
  b_abs : mg "abs" = none
  b_int : mg "int" = none
  b_isinstance : mg "isinstance" = none
  b_len : mg "len" = none
  b_max : mg "max" = none
  b_min : mg "min" = none
  b_range : mg "range" = none
  b_repr : mg "repr" = none
  b_tuple : mg "tuple" = none
structure Txt (K : PySem.W.Frag) (mg : Str → Option Value) : Prop where
  nil : True
abbrev sp_law := lawSp
abbrev TT : List (Str × Str) := []
def tbxp_ValueError : List (Str × Bool) := [("BadEdge", true), ("BadSpan", true), ("BadWindow", true), ("BadMoment", true), ("BadEnds", true), ("BadItem", true), ("BadOrder", true), ("BadTest", true), ("BadDeed", true), ("BadRule", true), ("BadUse", true), ("BadWish", true), ("BadOption", true), ("BadSweep", true), ("BadLevel", true), ("BadDay", true), ("BadColumns", true), ("BadText", true), ("BadCommand", true), ("NoOption", false), ("NoRow", false), ("NoSpan", false), ("NoName", false), ("TooMany", false), ("TooWide", false), ("TooFar", false), ("Endless", false), ("NoWindow", false), ("Unfit", false)]
def tbxp_LookupError : List (Str × Bool) := [("BadEdge", false), ("BadSpan", false), ("BadWindow", false), ("BadMoment", false), ("BadEnds", false), ("BadItem", false), ("BadOrder", false), ("BadTest", false), ("BadDeed", false), ("BadRule", false), ("BadUse", false), ("BadWish", false), ("BadOption", false), ("BadSweep", false), ("BadLevel", false), ("BadDay", false), ("BadColumns", false), ("BadText", false), ("BadCommand", false), ("NoOption", true), ("NoRow", true), ("NoSpan", true), ("NoName", true), ("TooMany", false), ("TooWide", false), ("TooFar", false), ("Endless", false), ("NoWindow", false), ("Unfit", false)]
def tbxp_OverflowError : List (Str × Bool) := [("BadEdge", false), ("BadSpan", false), ("BadWindow", false), ("BadMoment", false), ("BadEnds", false), ("BadItem", false), ("BadOrder", false), ("BadTest", false), ("BadDeed", false), ("BadRule", false), ("BadUse", false), ("BadWish", false), ("BadOption", false), ("BadSweep", false), ("BadLevel", false), ("BadDay", false), ("BadColumns", false), ("BadText", false), ("BadCommand", false), ("NoOption", false), ("NoRow", false), ("NoSpan", false), ("NoName", false), ("TooMany", true), ("TooWide", true), ("TooFar", true), ("Endless", true), ("NoWindow", false), ("Unfit", false)]
def tbxp_RuntimeError : List (Str × Bool) := [("BadEdge", false), ("BadSpan", false), ("BadWindow", false), ("BadMoment", false), ("BadEnds", false), ("BadItem", false), ("BadOrder", false), ("BadTest", false), ("BadDeed", false), ("BadRule", false), ("BadUse", false), ("BadWish", false), ("BadOption", false), ("BadSweep", false), ("BadLevel", false), ("BadDay", false), ("BadColumns", false), ("BadText", false), ("BadCommand", false), ("NoOption", false), ("NoRow", false), ("NoSpan", false), ("NoName", false), ("TooMany", false), ("TooWide", false), ("TooFar", false), ("Endless", false), ("NoWindow", true), ("Unfit", true)]
def tbxp_BadSpan : List (Str × Bool) := [("BadEdge", false), ("BadWindow", false), ("BadItem", false)]
def tbxp_BadItem : List (Str × Bool) := [("BadEdge", false), ("BadMoment", false), ("BadColumns", false)]
def tbxp_BadEdge : List (Str × Bool) := [("BadSpan", false), ("BadWindow", false), ("BadMoment", false), ("BadItem", false)]
def tbxp_BadWindow : List (Str × Bool) := [("BadSpan", false)]
def tbxp_BadWish : List (Str × Bool) := [("BadEnds", false), ("BadOrder", false), ("BadOption", false), ("BadSweep", false), ("BadLevel", false), ("BadText", false)]
def tbxp_BadOption : List (Str × Bool) := [("BadEnds", false), ("BadSweep", false)]
def tbxp_BadUse : List (Str × Bool) := [("BadOrder", false), ("BadRule", false), ("BadCommand", false)]
def tbxp_BadRule : List (Str × Bool) := [("BadTest", false), ("BadDeed", false), ("BadUse", false)]
def tbxp_BadDeed : List (Str × Bool) := [("BadTest", false)]
def tbxp_BadTest : List (Str × Bool) := [("BadDeed", false), ("BadRule", false)]
def tbxp_BadOrder : List (Str × Bool) := [("BadUse", false)]
def tbxp_BadEnds : List (Str × Bool) := [("BadWish", false)]
def tbxp_BadLevel : List (Str × Bool) := [("BadWish", false)]
def tbxp_BadSweep : List (Str × Bool) := [("BadOption", false), ("BadLevel", false)]
def tbxp_BadColumns : List (Str × Bool) := [("BadDay", false)]
def tbxp_BadMoment : List (Str × Bool) := [("BadDay", false)]
def tbxp_BadDay : List (Str × Bool) := [("BadColumns", false)]
def tbxp_BadCommand : List (Str × Bool) := [("BadText", false)]
def tbxp_BadText : List (Str × Bool) := [("BadCommand", false)]
def tbxp_NoName : List (Str × Bool) := [("NoOption", false), ("NoSpan", false)]
def tbxp_NoRow : List (Str × Bool) := [("NoOption", false), ("NoSpan", false)]
def tbxp_NoSpan : List (Str × Bool) := [("NoRow", false), ("NoName", false)]
def tbxp_NoOption : List (Str × Bool) := [("NoRow", false), ("NoName", false)]
def tbxp_TooWide : List (Str × Bool) := [("TooMany", false), ("TooFar", false)]
def tbxp_TooFar : List (Str × Bool) := [("TooMany", false), ("Endless", false)]
def tbxp_TooMany : List (Str × Bool) := [("TooWide", false), ("Endless", false)]
def tbxp_Endless : List (Str × Bool) := [("TooWide", false), ("TooFar", false)]
def tbxp_Unfit : List (Str × Bool) := [("NoWindow", false)]
def tbxp_NoWindow : List (Str × Bool) := [("Unfit", false)]
structure Kits (K : PySem.W.Frag) (mg : Str → Option Value) (cm : Str → Addr) : Prop where
  xp_ValueError : XisF K cm (.type "ValueError") tbxp_ValueError
  xp_LookupError : XisF K cm (.type "LookupError") tbxp_LookupError
  xp_OverflowError : XisF K cm (.type "OverflowError") tbxp_OverflowError
  xp_RuntimeError : XisF K cm (.type "RuntimeError") tbxp_RuntimeError
  xp_BadSpan : XisF K cm (.ref (cm "BadSpan")) tbxp_BadSpan
  xp_BadItem : XisF K cm (.ref (cm "BadItem")) tbxp_BadItem
  xp_BadEdge : XisF K cm (.ref (cm "BadEdge")) tbxp_BadEdge
  xp_BadWindow : XisF K cm (.ref (cm "BadWindow")) tbxp_BadWindow
  xp_BadWish : XisF K cm (.ref (cm "BadWish")) tbxp_BadWish
  xp_BadOption : XisF K cm (.ref (cm "BadOption")) tbxp_BadOption
  xp_BadUse : XisF K cm (.ref (cm "BadUse")) tbxp_BadUse
  xp_BadRule : XisF K cm (.ref (cm "BadRule")) tbxp_BadRule
  xp_BadDeed : XisF K cm (.ref (cm "BadDeed")) tbxp_BadDeed
  xp_BadTest : XisF K cm (.ref (cm "BadTest")) tbxp_BadTest
  xp_BadOrder : XisF K cm (.ref (cm "BadOrder")) tbxp_BadOrder
  xp_BadEnds : XisF K cm (.ref (cm "BadEnds")) tbxp_BadEnds
  xp_BadLevel : XisF K cm (.ref (cm "BadLevel")) tbxp_BadLevel
  xp_BadSweep : XisF K cm (.ref (cm "BadSweep")) tbxp_BadSweep
  xp_BadColumns : XisF K cm (.ref (cm "BadColumns")) tbxp_BadColumns
  xp_BadMoment : XisF K cm (.ref (cm "BadMoment")) tbxp_BadMoment
  xp_BadDay : XisF K cm (.ref (cm "BadDay")) tbxp_BadDay
  xp_BadCommand : XisF K cm (.ref (cm "BadCommand")) tbxp_BadCommand
  xp_BadText : XisF K cm (.ref (cm "BadText")) tbxp_BadText
  xp_NoName : XisF K cm (.ref (cm "NoName")) tbxp_NoName
  xp_NoRow : XisF K cm (.ref (cm "NoRow")) tbxp_NoRow
  xp_NoSpan : XisF K cm (.ref (cm "NoSpan")) tbxp_NoSpan
  xp_NoOption : XisF K cm (.ref (cm "NoOption")) tbxp_NoOption
  xp_TooWide : XisF K cm (.ref (cm "TooWide")) tbxp_TooWide
  xp_TooFar : XisF K cm (.ref (cm "TooFar")) tbxp_TooFar
  xp_TooMany : XisF K cm (.ref (cm "TooMany")) tbxp_TooMany
  xp_Endless : XisF K cm (.ref (cm "Endless")) tbxp_Endless
  xp_Unfit : XisF K cm (.ref (cm "Unfit")) tbxp_Unfit
  xp_NoWindow : XisF K cm (.ref (cm "NoWindow")) tbxp_NoWindow
  nil : True
end Spk
namespace Spk
open PySem PySem.Spec PyProof.Rows L2
local macro_rules | `(tactic| walk_at "ne") => `(tactic| first | assumption | exact Ne.symm (by assumption) | exact ne_of_none (by walk_at "hp") (by assumption) | exact Ne.symm (ne_of_none (by walk_at "hp") (by assumption)))
local macro_rules | `(tactic| walk_at "hp") => `(tactic| first | assumption | exact upd_same | (refine Eq.trans (upd_ne ?_) ?_; (focus walk_at "ne"); walk_at "hp"))
local macro_rules | `(tactic| walk_at "fact") => `(tactic| first | rfl | assumption | exact SqL.hp (by walk_at "hp") | exact SqT.hp (by walk_at "hp") | walk_at "hp" | exact Or.inl (SqL.hp (by walk_at "hp")) | exact Or.inr (SqT.hp (by walk_at "hp")) | omega | decide | exact Nat.le_of_ble_eq_true rfl | exact lgDiv (by omega) (by omega) | exact Or.inl ⟨by omega, by omega⟩ | exact Or.inr ⟨by omega, by omega⟩ | exact ⟨by omega, by omega⟩ | exact ⟨by omega, by omega, by omega⟩)
local macro_rules | `(tactic| walk_at "vc1") => `(tactic| first
  | (refine And.intro ?_ ?_; (focus walk_at "fact"))
  | refine iteF ?_
  | refine iteT ?_
  | refine ite2 (fun _ => ?_) (fun _ => ?_)
  | apply Exists.intro
  | (refine Or.inl ?_; apply Exists.intro; refine And.intro rfl ?_)
  | (refine Or.inr ?_; apply Exists.intro; refine And.intro rfl ?_))
local macro_rules | `(tactic| walk_at "vc") => `(tactic| repeat' (walk_at "vc1"))
/-! _law_bag -/
abbrev s_l_bag : Stmt := topS 31
abbrev sc_l_bag_N : List Str := ["_law_script", "_law_at", "_law_cell"]
theorem sc_l_bag : FnScope sc_l_bag_N ["_law_script", "_law_at"] (defScope s_l_bag) := ⟨rfl, rfl, rfl, by decide +kernel, rfl, by decide +kernel, by decide +kernel⟩
def t_l_bag_1 : SX :=
    (sSet 2 (eIf (bBl (eOp (op2 ltD) [(.ex (eVar 1)), (.ex (eOp (op1 lenD) [(.ex (eVar 0))]))])) (eOp (op2 ixD) [(.ex (eVar 0)), (.ex (eVar 1))]) (eC (.int 0))))
def t_l_bag_2 : SX :=
    (sRetF (fLst [(.ex (eIf (bBl (eOp (op2 geD) [(.ex (eOp (op1 absD) [(.ex (eVar 2))])), (.ex (eOp (op2 powD) [(.ex (eC (.int 10))), (.ex (eC (.int 18)))]))])) (eOp (op1 absD) [(.ex (eVar 2))]) (eC (.int 0)))), (.ex (eOp (op2 modD) [(.ex (eOp (op1 intD) [(.ex (eVar 2))])), (.ex (eC (.int 2305843009213693951)))])), (.ex (eOp (op2 addD) [(.ex (eOp (op2 mulD) [(.ex (eC (.int 6151))), (.ex (eVar 1))])), (.ex (eC (.int 389)))])), (.ex (eC (.int 0)))]))
def sem_l_bag : SX :=
    (sSeq t_l_bag_1
    t_l_bag_2)
def fn_l_bag : List Cell → Rs (List D) := fnN (fnBF 3 sem_l_bag)
section
variable {P : Program} {w : World} {K : PySem.W.Frag} {mg : Str → Option Value} {bh : Heap}
theorem ok_l_bag {f : Addr} {fd : FuncData} {cm : Str → Addr} (B : Blt mg) (T : Txt K mg) (KI : Kits K mg cm) (F : Fun K "_law_bag" "_law_bag" s_l_bag f fd) : FnOk P w K mg bh CX0 1 f fd ["_law_script", "_law_at"] (spF (Gx.mk K cm none TT) 2 fn_l_bag) := by
  refine F.ok sc_l_bag (spQ_len rfl) (fun cdv A outer s H vs Q E hr h => ?_)
  exact body_ofNF (G := (Gx.mk K cm none TT))
      (dss_cons (ds_set (i := 2) sc_l_bag.nd (de_ifExp (dt_cmp od_lt (de_var (i := 1)) (de_callB cd_len (by rfl) B.b_len (by decide +kernel) (da_cons (de_var (i := 0)) da_nil)) (nomark _)) (de_ix (de_var (i := 0)) (de_var (i := 1))) de_int))
      (dss_one (ds_retF (df_lst (da_cons (de_ifExp (dt_cmp od_ge (de_callB cd_abs (by rfl) B.b_abs (by decide +kernel) (da_cons (de_var (i := 2)) da_nil)) (de_bin od_pow de_int de_int) (nomark _)) (de_callB cd_abs (by rfl) B.b_abs (by decide +kernel) (da_cons (de_var (i := 2)) da_nil)) de_int) (da_cons (de_bin od_mod (de_callTy cd_int (by rfl) B.b_int (by decide +kernel) (da_cons (de_var (i := 2)) da_nil)) de_int) (da_cons (de_bin od_add (de_bin od_mul de_int (de_var (i := 1))) de_int) (da_cons de_int da_nil))))))))
      rfl h
end
/-! _law_take -/
abbrev s_l_take : Stmt := topS 32
abbrev sc_l_take_N : List Str := ["_law_bag_here", "_law_many", "_law_digit", "_law_mixed"]
theorem sc_l_take : FnScope sc_l_take_N ["_law_bag_here", "_law_many"] (defScope s_l_take) := ⟨rfl, rfl, rfl, by decide +kernel, rfl, by decide +kernel, by decide +kernel⟩
def t_l_take_1 : SX :=
    (sIf (bBl (eOp (op2 gtD) [(.ex (eOp (op2 ixD) [(.sl 0), (.ex (eC (.int 0)))])), (.ex (eC (.int 0)))]))
    (sSeq (sSet 2 (eOp (op2 modD) [(.ex (eOp (op1 intD) [(.ex (eOp (op2 ixD) [(.sl 0), (.ex (eC (.int 0)))]))])), (.ex (eVar 1))]))
    (sSeq (sPut 0 (eOp (op2 divD) [(.ex (eOp (op2 ixD) [(.sl 0), (.ex (eC (.int 0)))])), (.ex (eVar 1))]) (eC (.int 0)))
    (sRet (eVar 2))))
    sNil)
def t_l_take_2 : SX :=
    (sPut 0 (eOp (op2 addD) [(.ex (eOp (op2 ixD) [(.sl 0), (.ex (eC (.int 3)))])), (.ex (eC (.int 1)))]) (eC (.int 3)))
def t_l_take_3 : SX :=
    (sSet 3 (eOp (op2 modD) [(.ex (eOp (op1 intD) [(.ex (eOp (op2 powD) [(.ex (eOp (op2 addD) [(.ex (eOp (op2 addD) [(.ex (eOp (op2 ixD) [(.sl 0), (.ex (eC (.int 1)))])), (.ex (eOp (op2 mulD) [(.ex (eC (.int 7368787))), (.ex (eOp (op2 ixD) [(.sl 0), (.ex (eC (.int 3)))]))]))])), (.ex (eOp (op2 ixD) [(.sl 0), (.ex (eC (.int 2)))]))])), (.ex (eC (.int 2)))]))])), (.ex (eC (.int 2305843009213693921)))]))
def t_l_take_4 : SX :=
    (sSet 3 (eOp (op2 modD) [(.ex (eOp (op1 intD) [(.ex (eOp (op2 powD) [(.ex (eOp (op2 addD) [(.ex (eVar 3)), (.ex (eOp (op2 mulD) [(.ex (eC (.int 32452867))), (.ex (eOp (op2 ixD) [(.sl 0), (.ex (eC (.int 3)))]))]))])), (.ex (eC (.int 3)))]))])), (.ex (eC (.int 2305843009213693951)))]))
def t_l_take_5 : SX :=
    (sRet (eOp (op2 modD) [(.ex (eOp (op1 intD) [(.ex (eOp (op2 divD) [(.ex (eVar 3)), (.ex (eC (.int 4096)))]))])), (.ex (eVar 1))]))
def sem_l_take : SX :=
    (sSeq t_l_take_1
    (sSeq t_l_take_2
    (sSeq t_l_take_3
    (sSeq t_l_take_4
    t_l_take_5))))
def fn_l_take : List Cell → Rs D := fnN (fnB 4 sem_l_take)
section
variable {P : Program} {w : World} {K : PySem.W.Frag} {mg : Str → Option Value} {bh : Heap}
theorem ok_l_take {f : Addr} {fd : FuncData} {cm : Str → Addr} (B : Blt mg) (T : Txt K mg) (KI : Kits K mg cm) (F : Fun K "_law_take" "_law_take" s_l_take f fd) : FnOk P w K mg bh CX0 1 f fd ["_law_bag_here", "_law_many"] (spD (Gx.mk K cm none TT) 2 fn_l_take) := by
  refine F.ok sc_l_take (spQ_len rfl) (fun cdv A outer s H vs Q E hr h => ?_)
  exact body_ofN (G := (Gx.mk K cm none TT))
      (dss_cons (ds_if (dt_cmp od_gt (de_ix (do_sl (i := 0)) de_int) de_int (nomark _))
      (dss_cons (ds_set (i := 2) sc_l_take.nd (de_bin od_mod (de_callTy cd_int (by rfl) B.b_int (by decide +kernel) (da_cons (de_ix (do_sl (i := 0)) de_int) da_nil)) (de_var (i := 1))))
      (dss_cons (ds_put (i := 0) (de_bin od_div (de_ix (do_sl (i := 0)) de_int) (de_var (i := 1))) de_int)
      (dss_one (ds_ret (de_var (i := 2))))))
      dss_nil)
      (dss_cons (ds_put (i := 0) (de_bin od_add (de_ix (do_sl (i := 0)) de_int) de_int) de_int)
      (dss_cons (ds_set (i := 3) sc_l_take.nd (de_bin od_mod (de_callTy cd_int (by rfl) B.b_int (by decide +kernel) (da_cons (de_bin od_pow (de_bin od_add (de_bin od_add (de_ix (do_sl (i := 0)) de_int) (de_bin od_mul de_int (de_ix (do_sl (i := 0)) de_int))) (de_ix (do_sl (i := 0)) de_int)) de_int) da_nil)) de_int))
      (dss_cons (ds_set (i := 3) sc_l_take.nd (de_bin od_mod (de_callTy cd_int (by rfl) B.b_int (by decide +kernel) (da_cons (de_bin od_pow (de_bin od_add (de_var (i := 3)) (de_bin od_mul de_int (de_ix (do_sl (i := 0)) de_int))) de_int) da_nil)) de_int))
      (dss_one (ds_ret (de_bin od_mod (de_callTy cd_int (by rfl) B.b_int (by decide +kernel) (da_cons (de_bin od_div (de_var (i := 3)) de_int) da_nil)) (de_var (i := 1)))))))))
      rfl h
end
/-! _law_any -/
abbrev s_l_any : Stmt := topS 33
abbrev sc_l_any_N : List Str := ["_law_bag_here", "_law_deep", "_law_kind", "_law_found", "_law_turn"]
theorem sc_l_any : FnScope sc_l_any_N ["_law_bag_here", "_law_deep"] (defScope s_l_any) := ⟨rfl, rfl, rfl, by decide +kernel, rfl, by decide +kernel, by decide +kernel⟩
def sem_l_any (r : List Cell → Rs D) : SX :=
    (sSeq (sSet 2 (eCall 2 fn_l_take [] [(.sl 0), (.ex (eIf (bBl (eOp (op2 gtD) [(.ex (eVar 1)), (.ex (eC (.int 0)))])) (eC (.int 9)) (eC (.int 6))))]))
    (sSeq (sIf (bBl (eOp (op2 ltD) [(.ex (eVar 2)), (.ex (eC (.int 2)))]))
    (sRet (eOp (op2 divD) [(.ex (eOp (op2 subD) [(.ex (eCall 2 fn_l_take [] [(.sl 0), (.ex (eOp (op2 powD) [(.ex (eC (.int 10))), (.ex (eC (.int 40)))]))])), (.ex (eCall 2 fn_l_take [] [(.sl 0), (.ex (eOp (op2 powD) [(.ex (eC (.int 10))), (.ex (eC (.int 20)))]))]))])), (.ex (eOp (op2 addD) [(.ex (eC (.int 1))), (.ex (eOp (op2 mulD) [(.ex (eVar 2)), (.ex (eOp (op2 powD) [(.ex (eC (.int 10))), (.ex (eC (.int 7)))]))]))]))]))
    sNil)
    (sSeq (sIf (bBl (eOp (op2 ltD) [(.ex (eVar 2)), (.ex (eC (.int 5)))]))
    (sRet (eOp (op2 ixD) [(.ex (eFr (fLst [(.ex (eC .non)), (.ex (eC (.bl true))), (.ex (eC (.bl false)))]))), (.ex (eOp (op2 subD) [(.ex (eVar 2)), (.ex (eC (.int 2)))]))]))
    sNil)
    (sSeq (sIf (bBl (eOp (op2 eqD) [(.ex (eVar 2)), (.ex (eC (.int 5)))]))
    (sRet (eOp (op2 ixD) [(.ex (eFr (fLst [(.ex (eC (.str ""))), (.ex (eC (.str "high"))), (.ex (eC (.str "0"))), (.ex (eC (.str "none"))), (.ex (eC (.str "a b")))]))), (.ex (eCall 2 fn_l_take [] [(.sl 0), (.ex (eC (.int 5)))]))]))
    sNil)
    (sSeq (sSet 3 (eFr (fLc (fRng1 (eCall 2 fn_l_take [] [(.sl 0), (.ex (eC (.int 4)))])) [4] (gSet 4) bYes (eCall 2 r [] [(.sl 0), (.ex (eOp (op2 subD) [(.ex (eVar 1)), (.ex (eC (.int 1)))]))]))))
    (sRet (eIf (bBl (eOp (op2 eqD) [(.ex (eVar 2)), (.ex (eC (.int 6)))])) (eVar 3) (eOp (op1 tupD) [(.ex (eVar 3))]))))))))
def fnr_l_any : Nat → List Cell → Rs D
  | 0 => fun _ => .bad
  | m + 1 => fnN (fnB 5 (sem_l_any (fnr_l_any m)))
def fn_l_any : List Cell → Rs D := fnr_l_any 8
section
variable {P : Program} {w : World} {K : PySem.W.Frag} {mg : Str → Option Value} {bh : Heap}
theorem ok1_l_any {m : Nat} {f : Addr} {fd : FuncData} {cm : Str → Addr} {f_l_take : Addr} {fd_l_take : FuncData} (B : Blt mg) (T : Txt K mg) (KI : Kits K mg cm) (R_l_take : Rdy P w K mg bh "_law_take" 1 ["_law_bag_here", "_law_many"] (spD (Gx.mk K cm none TT) 2 fn_l_take) f_l_take fd_l_take) (R_l_any : Rdy P w K mg bh "_law_any" (2 + m) ["_law_bag_here", "_law_deep"] (spD (Gx.mk K cm none TT) 2 (fnr_l_any m)) f fd) (F : Fun K "_law_any" "_law_any" s_l_any f fd) : FnOk P w K mg bh CX0 (2 + m + 1) f fd ["_law_bag_here", "_law_deep"] (spD (Gx.mk K cm none TT) 2 (fnr_l_any (m + 1))) := by
  refine F.ok sc_l_any (spQ_len rfl) (fun cdv A outer s H vs Q E hr h => ?_)
  exact body_ofN (G := (Gx.mk K cm none TT))
      (dss_cons (ds_set (i := 2) sc_l_any.nd (de_call R_l_take hr (by omega) (by rfl) (da_cons (do_sl (i := 0)) (da_cons (de_ifExp (dt_cmp od_gt (de_var (i := 1)) de_int (nomark _)) de_int de_int) da_nil))))
      (dss_cons (ds_if (dt_cmp od_lt (de_var (i := 2)) de_int (nomark _))
      (dss_one (ds_ret (de_bin od_div (de_bin od_sub (de_call R_l_take hr (by omega) (by rfl) (da_cons (do_sl (i := 0)) (da_cons (de_bin od_pow de_int de_int) da_nil))) (de_call R_l_take hr (by omega) (by rfl) (da_cons (do_sl (i := 0)) (da_cons (de_bin od_pow de_int de_int) da_nil)))) (de_bin od_add de_int (de_bin od_mul (de_var (i := 2)) (de_bin od_pow de_int de_int))))))
      dss_nil)
      (dss_cons (ds_if (dt_cmp od_lt (de_var (i := 2)) de_int (nomark _))
      (dss_one (ds_ret (de_ix (DF.de (df_lst (da_cons de_non (da_cons de_bl (da_cons de_bl da_nil))))) (de_bin od_sub (de_var (i := 2)) de_int))))
      dss_nil)
      (dss_cons (ds_if (dt_cmp (od_eq hr.units) (de_var (i := 2)) de_int (nomark _))
      (dss_one (ds_ret (de_ix (DF.de (df_lst (da_cons (de_str (by decide +kernel)) (da_cons (de_str (by decide +kernel)) (da_cons (de_str (by decide +kernel)) (da_cons (de_str (by decide +kernel)) (da_cons (de_str (by decide +kernel)) da_nil))))))) (de_call R_l_take hr (by omega) (by rfl) (da_cons (do_sl (i := 0)) (da_cons de_int da_nil))))))
      dss_nil)
      (dss_cons (ds_setLc (i := 3) (own := [("_law_turn", 4)]) (di_rng1 (de_call R_l_take hr (by omega) (by rfl) (da_cons (do_sl (i := 0)) (da_cons de_int da_nil))) (by rfl) B.b_range) (blkOk_by (own := [("_law_turn", 4)]) (N := sc_l_any_N) (sc := defScope s_l_any) (by decide +kernel)) (fun _ _ _ _ _ => (dg_name sc_l_any.nd (i := 4))) (fun _ _ _ _ _ => dts_nil) (fun _ _ _ _ _ => (de_call R_l_any hr (by omega) (by rfl) (da_cons (do_sl (i := 0)) (da_cons (de_bin od_sub (de_var (i := 1)) de_int) da_nil)))) sc_l_any.nd (sw_true rfl rfl rfl (by decide +kernel)))
      (dss_one (ds_ret (de_ifExp (dt_cmp (od_eq hr.units) (de_var (i := 2)) de_int (nomark _)) (de_var (i := 3)) (de_callTy cd_tup (by rfl) B.b_tuple (by decide +kernel) (da_cons (de_var (i := 3)) da_nil))))))))))
      rfl h
theorem ok_l_any {f : Addr} {fd : FuncData} {cm : Str → Addr} {f_l_take : Addr} {fd_l_take : FuncData} (B : Blt mg) (T : Txt K mg) (KI : Kits K mg cm) (R_l_take : Rdy P w K mg bh "_law_take" 1 ["_law_bag_here", "_law_many"] (spD (Gx.mk K cm none TT) 2 fn_l_take) f_l_take fd_l_take) (gl : mg "_law_any" = some (.ref f)) (bd : Binds K fd ["_law_bag_here", "_law_deep"] []) (F : Fun K "_law_any" "_law_any" s_l_any f fd) : FnOk P w K mg bh CX0 10 f fd ["_law_bag_here", "_law_deep"] (spD (Gx.mk K cm none TT) 2 fn_l_any) := by
  have go : ∀ m : Nat, FnOk P w K mg bh CX0 (2 + m) f fd ["_law_bag_here", "_law_deep"] (spD (Gx.mk K cm none TT) 2 (fnr_l_any m)) := by
    intro m
    induction m with
    | zero => exact rec_zero rfl
    | succ m ih => exact ok1_l_any B T KI R_l_take ⟨ih, gl, F.kp, bd⟩ F
  exact go 8
end
/-! _law_kinds -/
abbrev s_l_kinds : Stmt := topS 34
abbrev sc_l_kinds_N : List Str := ["_law_e", "_law_told", "_law_k"]
theorem sc_l_kinds : FnScope sc_l_kinds_N ["_law_e"] (defScope s_l_kinds) := ⟨rfl, rfl, rfl, by decide +kernel, rfl, by decide +kernel, by decide +kernel⟩
def t_l_kinds_1 : SX :=
    (sSet 1 (eFr (fLst [(.ex (eIsX tbxp_ValueError (eVar 0))), (.ex (eIsX tbxp_LookupError (eVar 0))), (.ex (eIsX tbxp_OverflowError (eVar 0))), (.ex (eIsX tbxp_RuntimeError (eVar 0)))])))
def c_l_kinds_1 : PEnv → Rs (List D) :=
    (fLc (fRng1 (eC (.int 4))) [2] (gSet 2) (bTru (.ex (eOp (op2 ixD) [(.ex (eVar 1)), (.ex (eVar 2))]))) (eVar 2))
def t_l_kinds_2 : SX :=
    (sRet (eFr c_l_kinds_1))
def sem_l_kinds : SX :=
    (sSeq t_l_kinds_1
    t_l_kinds_2)
def fn_l_kinds : List Cell → Rs D := fnN (fnB 3 sem_l_kinds)
section
variable {P : Program} {w : World} {K : PySem.W.Frag} {mg : Str → Option Value} {bh : Heap}
theorem ok_l_kinds {f : Addr} {fd : FuncData} {cm : Str → Addr} (B : Blt mg) (T : Txt K mg) (KI : Kits K mg cm) (F : Fun K "_law_kinds" "_law_kinds" s_l_kinds f fd) : FnOk P w K mg bh CX0 1 f fd ["_law_e"] (spD (Gx.mk K cm none TT) 1 fn_l_kinds) := by
  refine F.ok sc_l_kinds (spQ_len rfl) (fun cdv A outer s H vs Q E hr h => ?_)
  exact body_ofN (G := (Gx.mk K cm none TT))
      (dss_cons (ds_set (i := 1) sc_l_kinds.nd (DF.de (df_lst (da_cons (de_isX (de_var (i := 0)) KI.xp_ValueError (.ty _) (pe_bltn (v := .ty "ValueError") (by rfl) B.b_ValueError (by decide +kernel) rfl) (by rfl) B.b_isinstance) (da_cons (de_isX (de_var (i := 0)) KI.xp_LookupError (.ty _) (pe_bltn (v := .ty "LookupError") (by rfl) B.b_LookupError (by decide +kernel) rfl) (by rfl) B.b_isinstance) (da_cons (de_isX (de_var (i := 0)) KI.xp_OverflowError (.ty _) (pe_bltn (v := .ty "OverflowError") (by rfl) B.b_OverflowError (by decide +kernel) rfl) (by rfl) B.b_isinstance) (da_cons (de_isX (de_var (i := 0)) KI.xp_RuntimeError (.ty _) (pe_bltn (v := .ty "RuntimeError") (by rfl) B.b_RuntimeError (by decide +kernel) rfl) (by rfl) B.b_isinstance) da_nil)))))))
      (dss_one (ds_ret (DF.de (df_lc (own := [("_law_k", 2)]) (di_rng1 de_int (by rfl) B.b_range) (blkOk_by (own := [("_law_k", 2)]) (N := sc_l_kinds_N) (sc := defScope s_l_kinds) (by decide +kernel)) (fun _ _ _ _ _ => (dg_name sc_l_kinds.nd (i := 2))) (fun _ _ _ _ _ => (dts_one (dt_tru (de_ix (de_var (i := 1)) (de_var (i := 2)))))) (fun _ _ _ _ _ => (de_var (i := 2))) sc_l_kinds.nd)))))
      rfl h
end
/-! _law_values -/
abbrev s_l_values : Stmt := topS 35
abbrev sc_l_values_N : List Str := ["_law_x", "_law_found"]
theorem sc_l_values : FnScope sc_l_values_N ["_law_x"] (defScope s_l_values) := ⟨rfl, rfl, rfl, by decide +kernel, rfl, by decide +kernel, by decide +kernel⟩
def t_l_values_1 : SX :=
    (sOwn 1 (fLst [(.ex (eTup [(.ex (eXnF "BadEdge" "edge" (eXn "BadEdge" "edge" (eVar 0)))), (.ex (eCall 1 fn_l_kinds [] [(.ex (eXn "BadEdge" "edge" (eVar 0)))])), (.ex (eIsX2 tbxp_BadSpan tbxp_BadItem (eXn "BadEdge" "edge" (eVar 0))))]))]))
def t_l_values_2 : SX :=
    (sMut 1 (sApp 1 (eTup [(.ex (eXnF "BadSpan" "span" (eXn "BadSpan" "span" (eVar 0)))), (.ex (eCall 1 fn_l_kinds [] [(.ex (eXn "BadSpan" "span" (eVar 0)))])), (.ex (eIsX2 tbxp_BadEdge tbxp_BadWindow (eXn "BadSpan" "span" (eVar 0))))])))
def t_l_values_3 : SX :=
    (sMut 1 (sApp 1 (eTup [(.ex (eXnF "BadWindow" "window" (eXn "BadWindow" "window" (eVar 0)))), (.ex (eCall 1 fn_l_kinds [] [(.ex (eXn "BadWindow" "window" (eVar 0)))])), (.ex (eIsX2 tbxp_BadSpan tbxp_BadEdge (eXn "BadWindow" "window" (eVar 0))))])))
def t_l_values_4 : SX :=
    (sMut 1 (sApp 1 (eTup [(.ex (eXnF "BadMoment" "moment" (eXn "BadMoment" "moment" (eVar 0)))), (.ex (eCall 1 fn_l_kinds [] [(.ex (eXn "BadMoment" "moment" (eVar 0)))])), (.ex (eIsX2 tbxp_BadEdge tbxp_BadItem (eXn "BadMoment" "moment" (eVar 0))))])))
def t_l_values_5 : SX :=
    (sMut 1 (sApp 1 (eTup [(.ex (eXnF "BadEnds" "ends" (eXn "BadEnds" "ends" (eVar 0)))), (.ex (eCall 1 fn_l_kinds [] [(.ex (eXn "BadEnds" "ends" (eVar 0)))])), (.ex (eIsX2 tbxp_BadWish tbxp_BadOption (eXn "BadEnds" "ends" (eVar 0))))])))
def t_l_values_6 : SX :=
    (sMut 1 (sApp 1 (eTup [(.ex (eXnF "BadItem" "index" (eXn "BadItem" "index" (eVar 0)))), (.ex (eCall 1 fn_l_kinds [] [(.ex (eXn "BadItem" "index" (eVar 0)))])), (.ex (eIsX2 tbxp_BadSpan tbxp_BadEdge (eXn "BadItem" "index" (eVar 0))))])))
def t_l_values_7 : SX :=
    (sMut 1 (sApp 1 (eTup [(.ex (eXnF "BadOrder" "order" (eXn "BadOrder" "order" (eVar 0)))), (.ex (eCall 1 fn_l_kinds [] [(.ex (eXn "BadOrder" "order" (eVar 0)))])), (.ex (eIsX2 tbxp_BadWish tbxp_BadUse (eXn "BadOrder" "order" (eVar 0))))])))
def t_l_values_8 : SX :=
    (sMut 1 (sApp 1 (eTup [(.ex (eXnF "BadTest" "test" (eXn "BadTest" "test" (eVar 0)))), (.ex (eCall 1 fn_l_kinds [] [(.ex (eXn "BadTest" "test" (eVar 0)))])), (.ex (eIsX2 tbxp_BadRule tbxp_BadDeed (eXn "BadTest" "test" (eVar 0))))])))
def t_l_values_9 : SX :=
    (sMut 1 (sApp 1 (eTup [(.ex (eXnF "BadDeed" "deed" (eXn "BadDeed" "deed" (eVar 0)))), (.ex (eCall 1 fn_l_kinds [] [(.ex (eXn "BadDeed" "deed" (eVar 0)))])), (.ex (eIsX2 tbxp_BadRule tbxp_BadTest (eXn "BadDeed" "deed" (eVar 0))))])))
def t_l_values_10 : SX :=
    (sMut 1 (sApp 1 (eTup [(.ex (eXnF "BadRule" "rule" (eXn "BadRule" "rule" (eVar 0)))), (.ex (eCall 1 fn_l_kinds [] [(.ex (eXn "BadRule" "rule" (eVar 0)))])), (.ex (eIsX2 tbxp_BadTest tbxp_BadUse (eXn "BadRule" "rule" (eVar 0))))])))
def t_l_values_11 : SX :=
    (sMut 1 (sApp 1 (eTup [(.ex (eXnF "BadUse" "place" (eXn "BadUse" "place" (eVar 0)))), (.ex (eCall 1 fn_l_kinds [] [(.ex (eXn "BadUse" "place" (eVar 0)))])), (.ex (eIsX2 tbxp_BadRule tbxp_BadOrder (eXn "BadUse" "place" (eVar 0))))])))
def t_l_values_12 : SX :=
    (sMut 1 (sApp 1 (eTup [(.ex (eXnF "BadWish" "word" (eXn "BadWish" "word" (eVar 0)))), (.ex (eCall 1 fn_l_kinds [] [(.ex (eXn "BadWish" "word" (eVar 0)))])), (.ex (eIsX2 tbxp_BadEnds tbxp_BadLevel (eXn "BadWish" "word" (eVar 0))))])))
def t_l_values_13 : SX :=
    (sMut 1 (sApp 1 (eTup [(.ex (eXnF "BadOption" "option" (eXn "BadOption" "option" (eVar 0)))), (.ex (eCall 1 fn_l_kinds [] [(.ex (eXn "BadOption" "option" (eVar 0)))])), (.ex (eIsX2 tbxp_BadSweep tbxp_BadWish (eXn "BadOption" "option" (eVar 0))))])))
def t_l_values_14 : SX :=
    (sMut 1 (sApp 1 (eTup [(.ex (eXnF "BadSweep" "word" (eXn "BadSweep" "word" (eVar 0)))), (.ex (eCall 1 fn_l_kinds [] [(.ex (eXn "BadSweep" "word" (eVar 0)))])), (.ex (eIsX2 tbxp_BadOption tbxp_BadWish (eXn "BadSweep" "word" (eVar 0))))])))
def t_l_values_15 : SX :=
    (sMut 1 (sApp 1 (eTup [(.ex (eXnF "BadLevel" "level" (eXn "BadLevel" "level" (eVar 0)))), (.ex (eCall 1 fn_l_kinds [] [(.ex (eXn "BadLevel" "level" (eVar 0)))])), (.ex (eIsX2 tbxp_BadSweep tbxp_BadWish (eXn "BadLevel" "level" (eVar 0))))])))
def t_l_values_16 : SX :=
    (sMut 1 (sApp 1 (eTup [(.ex (eXnF "BadDay" "day" (eXn "BadDay" "day" (eVar 0)))), (.ex (eCall 1 fn_l_kinds [] [(.ex (eXn "BadDay" "day" (eVar 0)))])), (.ex (eIsX2 tbxp_BadColumns tbxp_BadMoment (eXn "BadDay" "day" (eVar 0))))])))
def t_l_values_17 : SX :=
    (sMut 1 (sApp 1 (eTup [(.ex (eXnF "BadColumns" "columns" (eXn "BadColumns" "columns" (eVar 0)))), (.ex (eCall 1 fn_l_kinds [] [(.ex (eXn "BadColumns" "columns" (eVar 0)))])), (.ex (eIsX2 tbxp_BadDay tbxp_BadItem (eXn "BadColumns" "columns" (eVar 0))))])))
def t_l_values_18 : SX :=
    (sMut 1 (sApp 1 (eTup [(.ex (eXnF "BadText" "line" (eXn "BadText" "line" (eVar 0)))), (.ex (eCall 1 fn_l_kinds [] [(.ex (eXn "BadText" "line" (eVar 0)))])), (.ex (eIsX2 tbxp_BadCommand tbxp_BadWish (eXn "BadText" "line" (eVar 0))))])))
def t_l_values_19 : SX :=
    (sMut 1 (sApp 1 (eTup [(.ex (eXnF "BadCommand" "command" (eXn "BadCommand" "command" (eVar 0)))), (.ex (eCall 1 fn_l_kinds [] [(.ex (eXn "BadCommand" "command" (eVar 0)))])), (.ex (eIsX2 tbxp_BadText tbxp_BadUse (eXn "BadCommand" "command" (eVar 0))))])))
def t_l_values_20 : SX :=
    (sRetF (fOwn 1))
def sem_l_values : SX :=
    (sSeq t_l_values_1
    (sSeq t_l_values_2
    (sSeq t_l_values_3
    (sSeq t_l_values_4
    (sSeq t_l_values_5
    (sSeq t_l_values_6
    (sSeq t_l_values_7
    (sSeq t_l_values_8
    (sSeq t_l_values_9
    (sSeq t_l_values_10
    (sSeq t_l_values_11
    (sSeq t_l_values_12
    (sSeq t_l_values_13
    (sSeq t_l_values_14
    (sSeq t_l_values_15
    (sSeq t_l_values_16
    (sSeq t_l_values_17
    (sSeq t_l_values_18
    (sSeq t_l_values_19
    t_l_values_20)))))))))))))))))))
def fn_l_values : List Cell → Rs (List D) := fnN (fnBF 2 sem_l_values)
section
variable {P : Program} {w : World} {K : PySem.W.Frag} {mg : Str → Option Value} {bh : Heap}
theorem ok_l_values {f : Addr} {fd : FuncData} {cm : Str → Addr} {fI_BadEdge : Addr} {fdE_BadEdge : FuncData} {fI_BadSpan : Addr} {fdE_BadSpan : FuncData} {fI_BadWindow : Addr} {fdE_BadWindow : FuncData} {fI_BadMoment : Addr} {fdE_BadMoment : FuncData} {fI_BadEnds : Addr} {fdE_BadEnds : FuncData} {fI_BadItem : Addr} {fdE_BadItem : FuncData} {fI_BadOrder : Addr} {fdE_BadOrder : FuncData} {fI_BadTest : Addr} {fdE_BadTest : FuncData} {fI_BadDeed : Addr} {fdE_BadDeed : FuncData} {fI_BadRule : Addr} {fdE_BadRule : FuncData} {fI_BadUse : Addr} {fdE_BadUse : FuncData} {fI_BadWish : Addr} {fdE_BadWish : FuncData} {fI_BadOption : Addr} {fdE_BadOption : FuncData} {fI_BadSweep : Addr} {fdE_BadSweep : FuncData} {fI_BadLevel : Addr} {fdE_BadLevel : FuncData} {fI_BadDay : Addr} {fdE_BadDay : FuncData} {fI_BadColumns : Addr} {fdE_BadColumns : FuncData} {fI_BadText : Addr} {fdE_BadText : FuncData} {fI_BadCommand : Addr} {fdE_BadCommand : FuncData} {f_l_kinds : Addr} {fd_l_kinds : FuncData} (B : Blt mg) (T : Txt K mg) (KI : Kits K mg cm) (E_BadEdge : ErrB P w K mg bh "BadEdge" "edge" (cm "BadEdge") fI_BadEdge fdE_BadEdge) (E_BadSpan : ErrB P w K mg bh "BadSpan" "span" (cm "BadSpan") fI_BadSpan fdE_BadSpan) (E_BadWindow : ErrB P w K mg bh "BadWindow" "window" (cm "BadWindow") fI_BadWindow fdE_BadWindow) (E_BadMoment : ErrB P w K mg bh "BadMoment" "moment" (cm "BadMoment") fI_BadMoment fdE_BadMoment) (E_BadEnds : ErrB P w K mg bh "BadEnds" "ends" (cm "BadEnds") fI_BadEnds fdE_BadEnds) (E_BadItem : ErrB P w K mg bh "BadItem" "index" (cm "BadItem") fI_BadItem fdE_BadItem) (E_BadOrder : ErrB P w K mg bh "BadOrder" "order" (cm "BadOrder") fI_BadOrder fdE_BadOrder) (E_BadTest : ErrB P w K mg bh "BadTest" "test" (cm "BadTest") fI_BadTest fdE_BadTest) (E_BadDeed : ErrB P w K mg bh "BadDeed" "deed" (cm "BadDeed") fI_BadDeed fdE_BadDeed) (E_BadRule : ErrB P w K mg bh "BadRule" "rule" (cm "BadRule") fI_BadRule fdE_BadRule) (E_BadUse : ErrB P w K mg bh "BadUse" "place" (cm "BadUse") fI_BadUse fdE_BadUse) (E_BadWish : ErrB P w K mg bh "BadWish" "word" (cm "BadWish") fI_BadWish fdE_BadWish) (E_BadOption : ErrB P w K mg bh "BadOption" "option" (cm "BadOption") fI_BadOption fdE_BadOption) (E_BadSweep : ErrB P w K mg bh "BadSweep" "word" (cm "BadSweep") fI_BadSweep fdE_BadSweep) (E_BadLevel : ErrB P w K mg bh "BadLevel" "level" (cm "BadLevel") fI_BadLevel fdE_BadLevel) (E_BadDay : ErrB P w K mg bh "BadDay" "day" (cm "BadDay") fI_BadDay fdE_BadDay) (E_BadColumns : ErrB P w K mg bh "BadColumns" "columns" (cm "BadColumns") fI_BadColumns fdE_BadColumns) (E_BadText : ErrB P w K mg bh "BadText" "line" (cm "BadText") fI_BadText fdE_BadText) (E_BadCommand : ErrB P w K mg bh "BadCommand" "command" (cm "BadCommand") fI_BadCommand fdE_BadCommand) (R_l_kinds : Rdy P w K mg bh "_law_kinds" 1 ["_law_e"] (spD (Gx.mk K cm none TT) 1 fn_l_kinds) f_l_kinds fd_l_kinds) (F : Fun K "_law_values" "_law_values" s_l_values f fd) : FnOk P w K mg bh CX0 3 f fd ["_law_x"] (spF (Gx.mk K cm none TT) 1 fn_l_values) := by
  refine F.ok sc_l_values (spQ_len rfl) (fun cdv A outer s H vs Q E hr h => ?_)
  exact body_ofNF (G := (Gx.mk K cm none TT))
      (dss_cons (ds_own (i := 1) sc_l_values.nd (df_lst (da_cons (de_tup (da_cons (de_xnF (g := "edge") E_BadEdge.xf E_BadEdge.noF (de_xnMk (c := "BadEdge") E_BadEdge hr (by decide) (by rfl) (de_var (i := 0)))) (da_cons (de_call R_l_kinds hr (by decide) (by rfl) (da_cons (de_xnMk (c := "BadEdge") E_BadEdge hr (by decide) (by rfl) (de_var (i := 0))) da_nil)) (da_cons (de_isX2 (de_xnMk (c := "BadEdge") E_BadEdge hr (by decide) (by rfl) (de_var (i := 0))) KI.xp_BadSpan KI.xp_BadItem (.own _) (.own _) (pe_glob (v := .ref (cm "BadSpan")) (by rfl) E_BadSpan.gC rfl) (pe_glob (v := .ref (cm "BadItem")) (by rfl) E_BadItem.gC rfl) (by rfl) B.b_isinstance) da_nil)))) da_nil)))
      (dss_cons (ds_app (i := 1) (de_tup (da_cons (de_xnF (g := "span") E_BadSpan.xf E_BadSpan.noF (de_xnMk (c := "BadSpan") E_BadSpan hr (by decide) (by rfl) (de_var (i := 0)))) (da_cons (de_call R_l_kinds hr (by decide) (by rfl) (da_cons (de_xnMk (c := "BadSpan") E_BadSpan hr (by decide) (by rfl) (de_var (i := 0))) da_nil)) (da_cons (de_isX2 (de_xnMk (c := "BadSpan") E_BadSpan hr (by decide) (by rfl) (de_var (i := 0))) KI.xp_BadEdge KI.xp_BadWindow (.own _) (.own _) (pe_glob (v := .ref (cm "BadEdge")) (by rfl) E_BadEdge.gC rfl) (pe_glob (v := .ref (cm "BadWindow")) (by rfl) E_BadWindow.gC rfl) (by rfl) B.b_isinstance) da_nil)))))
      (dss_cons (ds_app (i := 1) (de_tup (da_cons (de_xnF (g := "window") E_BadWindow.xf E_BadWindow.noF (de_xnMk (c := "BadWindow") E_BadWindow hr (by decide) (by rfl) (de_var (i := 0)))) (da_cons (de_call R_l_kinds hr (by decide) (by rfl) (da_cons (de_xnMk (c := "BadWindow") E_BadWindow hr (by decide) (by rfl) (de_var (i := 0))) da_nil)) (da_cons (de_isX2 (de_xnMk (c := "BadWindow") E_BadWindow hr (by decide) (by rfl) (de_var (i := 0))) KI.xp_BadSpan KI.xp_BadEdge (.own _) (.own _) (pe_glob (v := .ref (cm "BadSpan")) (by rfl) E_BadSpan.gC rfl) (pe_glob (v := .ref (cm "BadEdge")) (by rfl) E_BadEdge.gC rfl) (by rfl) B.b_isinstance) da_nil)))))
      (dss_cons (ds_app (i := 1) (de_tup (da_cons (de_xnF (g := "moment") E_BadMoment.xf E_BadMoment.noF (de_xnMk (c := "BadMoment") E_BadMoment hr (by decide) (by rfl) (de_var (i := 0)))) (da_cons (de_call R_l_kinds hr (by decide) (by rfl) (da_cons (de_xnMk (c := "BadMoment") E_BadMoment hr (by decide) (by rfl) (de_var (i := 0))) da_nil)) (da_cons (de_isX2 (de_xnMk (c := "BadMoment") E_BadMoment hr (by decide) (by rfl) (de_var (i := 0))) KI.xp_BadEdge KI.xp_BadItem (.own _) (.own _) (pe_glob (v := .ref (cm "BadEdge")) (by rfl) E_BadEdge.gC rfl) (pe_glob (v := .ref (cm "BadItem")) (by rfl) E_BadItem.gC rfl) (by rfl) B.b_isinstance) da_nil)))))
      (dss_cons (ds_app (i := 1) (de_tup (da_cons (de_xnF (g := "ends") E_BadEnds.xf E_BadEnds.noF (de_xnMk (c := "BadEnds") E_BadEnds hr (by decide) (by rfl) (de_var (i := 0)))) (da_cons (de_call R_l_kinds hr (by decide) (by rfl) (da_cons (de_xnMk (c := "BadEnds") E_BadEnds hr (by decide) (by rfl) (de_var (i := 0))) da_nil)) (da_cons (de_isX2 (de_xnMk (c := "BadEnds") E_BadEnds hr (by decide) (by rfl) (de_var (i := 0))) KI.xp_BadWish KI.xp_BadOption (.own _) (.own _) (pe_glob (v := .ref (cm "BadWish")) (by rfl) E_BadWish.gC rfl) (pe_glob (v := .ref (cm "BadOption")) (by rfl) E_BadOption.gC rfl) (by rfl) B.b_isinstance) da_nil)))))
      (dss_cons (ds_app (i := 1) (de_tup (da_cons (de_xnF (g := "index") E_BadItem.xf E_BadItem.noF (de_xnMk (c := "BadItem") E_BadItem hr (by decide) (by rfl) (de_var (i := 0)))) (da_cons (de_call R_l_kinds hr (by decide) (by rfl) (da_cons (de_xnMk (c := "BadItem") E_BadItem hr (by decide) (by rfl) (de_var (i := 0))) da_nil)) (da_cons (de_isX2 (de_xnMk (c := "BadItem") E_BadItem hr (by decide) (by rfl) (de_var (i := 0))) KI.xp_BadSpan KI.xp_BadEdge (.own _) (.own _) (pe_glob (v := .ref (cm "BadSpan")) (by rfl) E_BadSpan.gC rfl) (pe_glob (v := .ref (cm "BadEdge")) (by rfl) E_BadEdge.gC rfl) (by rfl) B.b_isinstance) da_nil)))))
      (dss_cons (ds_app (i := 1) (de_tup (da_cons (de_xnF (g := "order") E_BadOrder.xf E_BadOrder.noF (de_xnMk (c := "BadOrder") E_BadOrder hr (by decide) (by rfl) (de_var (i := 0)))) (da_cons (de_call R_l_kinds hr (by decide) (by rfl) (da_cons (de_xnMk (c := "BadOrder") E_BadOrder hr (by decide) (by rfl) (de_var (i := 0))) da_nil)) (da_cons (de_isX2 (de_xnMk (c := "BadOrder") E_BadOrder hr (by decide) (by rfl) (de_var (i := 0))) KI.xp_BadWish KI.xp_BadUse (.own _) (.own _) (pe_glob (v := .ref (cm "BadWish")) (by rfl) E_BadWish.gC rfl) (pe_glob (v := .ref (cm "BadUse")) (by rfl) E_BadUse.gC rfl) (by rfl) B.b_isinstance) da_nil)))))
      (dss_cons (ds_app (i := 1) (de_tup (da_cons (de_xnF (g := "test") E_BadTest.xf E_BadTest.noF (de_xnMk (c := "BadTest") E_BadTest hr (by decide) (by rfl) (de_var (i := 0)))) (da_cons (de_call R_l_kinds hr (by decide) (by rfl) (da_cons (de_xnMk (c := "BadTest") E_BadTest hr (by decide) (by rfl) (de_var (i := 0))) da_nil)) (da_cons (de_isX2 (de_xnMk (c := "BadTest") E_BadTest hr (by decide) (by rfl) (de_var (i := 0))) KI.xp_BadRule KI.xp_BadDeed (.own _) (.own _) (pe_glob (v := .ref (cm "BadRule")) (by rfl) E_BadRule.gC rfl) (pe_glob (v := .ref (cm "BadDeed")) (by rfl) E_BadDeed.gC rfl) (by rfl) B.b_isinstance) da_nil)))))
      (dss_cons (ds_app (i := 1) (de_tup (da_cons (de_xnF (g := "deed") E_BadDeed.xf E_BadDeed.noF (de_xnMk (c := "BadDeed") E_BadDeed hr (by decide) (by rfl) (de_var (i := 0)))) (da_cons (de_call R_l_kinds hr (by decide) (by rfl) (da_cons (de_xnMk (c := "BadDeed") E_BadDeed hr (by decide) (by rfl) (de_var (i := 0))) da_nil)) (da_cons (de_isX2 (de_xnMk (c := "BadDeed") E_BadDeed hr (by decide) (by rfl) (de_var (i := 0))) KI.xp_BadRule KI.xp_BadTest (.own _) (.own _) (pe_glob (v := .ref (cm "BadRule")) (by rfl) E_BadRule.gC rfl) (pe_glob (v := .ref (cm "BadTest")) (by rfl) E_BadTest.gC rfl) (by rfl) B.b_isinstance) da_nil)))))
      (dss_cons (ds_app (i := 1) (de_tup (da_cons (de_xnF (g := "rule") E_BadRule.xf E_BadRule.noF (de_xnMk (c := "BadRule") E_BadRule hr (by decide) (by rfl) (de_var (i := 0)))) (da_cons (de_call R_l_kinds hr (by decide) (by rfl) (da_cons (de_xnMk (c := "BadRule") E_BadRule hr (by decide) (by rfl) (de_var (i := 0))) da_nil)) (da_cons (de_isX2 (de_xnMk (c := "BadRule") E_BadRule hr (by decide) (by rfl) (de_var (i := 0))) KI.xp_BadTest KI.xp_BadUse (.own _) (.own _) (pe_glob (v := .ref (cm "BadTest")) (by rfl) E_BadTest.gC rfl) (pe_glob (v := .ref (cm "BadUse")) (by rfl) E_BadUse.gC rfl) (by rfl) B.b_isinstance) da_nil)))))
      (dss_cons (ds_app (i := 1) (de_tup (da_cons (de_xnF (g := "place") E_BadUse.xf E_BadUse.noF (de_xnMk (c := "BadUse") E_BadUse hr (by decide) (by rfl) (de_var (i := 0)))) (da_cons (de_call R_l_kinds hr (by decide) (by rfl) (da_cons (de_xnMk (c := "BadUse") E_BadUse hr (by decide) (by rfl) (de_var (i := 0))) da_nil)) (da_cons (de_isX2 (de_xnMk (c := "BadUse") E_BadUse hr (by decide) (by rfl) (de_var (i := 0))) KI.xp_BadRule KI.xp_BadOrder (.own _) (.own _) (pe_glob (v := .ref (cm "BadRule")) (by rfl) E_BadRule.gC rfl) (pe_glob (v := .ref (cm "BadOrder")) (by rfl) E_BadOrder.gC rfl) (by rfl) B.b_isinstance) da_nil)))))
      (dss_cons (ds_app (i := 1) (de_tup (da_cons (de_xnF (g := "word") E_BadWish.xf E_BadWish.noF (de_xnMk (c := "BadWish") E_BadWish hr (by decide) (by rfl) (de_var (i := 0)))) (da_cons (de_call R_l_kinds hr (by decide) (by rfl) (da_cons (de_xnMk (c := "BadWish") E_BadWish hr (by decide) (by rfl) (de_var (i := 0))) da_nil)) (da_cons (de_isX2 (de_xnMk (c := "BadWish") E_BadWish hr (by decide) (by rfl) (de_var (i := 0))) KI.xp_BadEnds KI.xp_BadLevel (.own _) (.own _) (pe_glob (v := .ref (cm "BadEnds")) (by rfl) E_BadEnds.gC rfl) (pe_glob (v := .ref (cm "BadLevel")) (by rfl) E_BadLevel.gC rfl) (by rfl) B.b_isinstance) da_nil)))))
      (dss_cons (ds_app (i := 1) (de_tup (da_cons (de_xnF (g := "option") E_BadOption.xf E_BadOption.noF (de_xnMk (c := "BadOption") E_BadOption hr (by decide) (by rfl) (de_var (i := 0)))) (da_cons (de_call R_l_kinds hr (by decide) (by rfl) (da_cons (de_xnMk (c := "BadOption") E_BadOption hr (by decide) (by rfl) (de_var (i := 0))) da_nil)) (da_cons (de_isX2 (de_xnMk (c := "BadOption") E_BadOption hr (by decide) (by rfl) (de_var (i := 0))) KI.xp_BadSweep KI.xp_BadWish (.own _) (.own _) (pe_glob (v := .ref (cm "BadSweep")) (by rfl) E_BadSweep.gC rfl) (pe_glob (v := .ref (cm "BadWish")) (by rfl) E_BadWish.gC rfl) (by rfl) B.b_isinstance) da_nil)))))
      (dss_cons (ds_app (i := 1) (de_tup (da_cons (de_xnF (g := "word") E_BadSweep.xf E_BadSweep.noF (de_xnMk (c := "BadSweep") E_BadSweep hr (by decide) (by rfl) (de_var (i := 0)))) (da_cons (de_call R_l_kinds hr (by decide) (by rfl) (da_cons (de_xnMk (c := "BadSweep") E_BadSweep hr (by decide) (by rfl) (de_var (i := 0))) da_nil)) (da_cons (de_isX2 (de_xnMk (c := "BadSweep") E_BadSweep hr (by decide) (by rfl) (de_var (i := 0))) KI.xp_BadOption KI.xp_BadWish (.own _) (.own _) (pe_glob (v := .ref (cm "BadOption")) (by rfl) E_BadOption.gC rfl) (pe_glob (v := .ref (cm "BadWish")) (by rfl) E_BadWish.gC rfl) (by rfl) B.b_isinstance) da_nil)))))
      (dss_cons (ds_app (i := 1) (de_tup (da_cons (de_xnF (g := "level") E_BadLevel.xf E_BadLevel.noF (de_xnMk (c := "BadLevel") E_BadLevel hr (by decide) (by rfl) (de_var (i := 0)))) (da_cons (de_call R_l_kinds hr (by decide) (by rfl) (da_cons (de_xnMk (c := "BadLevel") E_BadLevel hr (by decide) (by rfl) (de_var (i := 0))) da_nil)) (da_cons (de_isX2 (de_xnMk (c := "BadLevel") E_BadLevel hr (by decide) (by rfl) (de_var (i := 0))) KI.xp_BadSweep KI.xp_BadWish (.own _) (.own _) (pe_glob (v := .ref (cm "BadSweep")) (by rfl) E_BadSweep.gC rfl) (pe_glob (v := .ref (cm "BadWish")) (by rfl) E_BadWish.gC rfl) (by rfl) B.b_isinstance) da_nil)))))
      (dss_cons (ds_app (i := 1) (de_tup (da_cons (de_xnF (g := "day") E_BadDay.xf E_BadDay.noF (de_xnMk (c := "BadDay") E_BadDay hr (by decide) (by rfl) (de_var (i := 0)))) (da_cons (de_call R_l_kinds hr (by decide) (by rfl) (da_cons (de_xnMk (c := "BadDay") E_BadDay hr (by decide) (by rfl) (de_var (i := 0))) da_nil)) (da_cons (de_isX2 (de_xnMk (c := "BadDay") E_BadDay hr (by decide) (by rfl) (de_var (i := 0))) KI.xp_BadColumns KI.xp_BadMoment (.own _) (.own _) (pe_glob (v := .ref (cm "BadColumns")) (by rfl) E_BadColumns.gC rfl) (pe_glob (v := .ref (cm "BadMoment")) (by rfl) E_BadMoment.gC rfl) (by rfl) B.b_isinstance) da_nil)))))
      (dss_cons (ds_app (i := 1) (de_tup (da_cons (de_xnF (g := "columns") E_BadColumns.xf E_BadColumns.noF (de_xnMk (c := "BadColumns") E_BadColumns hr (by decide) (by rfl) (de_var (i := 0)))) (da_cons (de_call R_l_kinds hr (by decide) (by rfl) (da_cons (de_xnMk (c := "BadColumns") E_BadColumns hr (by decide) (by rfl) (de_var (i := 0))) da_nil)) (da_cons (de_isX2 (de_xnMk (c := "BadColumns") E_BadColumns hr (by decide) (by rfl) (de_var (i := 0))) KI.xp_BadDay KI.xp_BadItem (.own _) (.own _) (pe_glob (v := .ref (cm "BadDay")) (by rfl) E_BadDay.gC rfl) (pe_glob (v := .ref (cm "BadItem")) (by rfl) E_BadItem.gC rfl) (by rfl) B.b_isinstance) da_nil)))))
      (dss_cons (ds_app (i := 1) (de_tup (da_cons (de_xnF (g := "line") E_BadText.xf E_BadText.noF (de_xnMk (c := "BadText") E_BadText hr (by decide) (by rfl) (de_var (i := 0)))) (da_cons (de_call R_l_kinds hr (by decide) (by rfl) (da_cons (de_xnMk (c := "BadText") E_BadText hr (by decide) (by rfl) (de_var (i := 0))) da_nil)) (da_cons (de_isX2 (de_xnMk (c := "BadText") E_BadText hr (by decide) (by rfl) (de_var (i := 0))) KI.xp_BadCommand KI.xp_BadWish (.own _) (.own _) (pe_glob (v := .ref (cm "BadCommand")) (by rfl) E_BadCommand.gC rfl) (pe_glob (v := .ref (cm "BadWish")) (by rfl) E_BadWish.gC rfl) (by rfl) B.b_isinstance) da_nil)))))
      (dss_cons (ds_app (i := 1) (de_tup (da_cons (de_xnF (g := "command") E_BadCommand.xf E_BadCommand.noF (de_xnMk (c := "BadCommand") E_BadCommand hr (by decide) (by rfl) (de_var (i := 0)))) (da_cons (de_call R_l_kinds hr (by decide) (by rfl) (da_cons (de_xnMk (c := "BadCommand") E_BadCommand hr (by decide) (by rfl) (de_var (i := 0))) da_nil)) (da_cons (de_isX2 (de_xnMk (c := "BadCommand") E_BadCommand hr (by decide) (by rfl) (de_var (i := 0))) KI.xp_BadText KI.xp_BadUse (.own _) (.own _) (pe_glob (v := .ref (cm "BadText")) (by rfl) E_BadText.gC rfl) (pe_glob (v := .ref (cm "BadUse")) (by rfl) E_BadUse.gC rfl) (by rfl) B.b_isinstance) da_nil)))))
      (dss_one (ds_retF (df_own (i := 1)))))))))))))))))))))))
      rfl h
end
/-! _law_others -/
abbrev s_l_others : Stmt := topS 36
abbrev sc_l_others_N : List Str := ["_law_x", "_law_found"]
theorem sc_l_others : FnScope sc_l_others_N ["_law_x"] (defScope s_l_others) := ⟨rfl, rfl, rfl, by decide +kernel, rfl, by decide +kernel, by decide +kernel⟩
def t_l_others_1 : SX :=
    (sOwn 1 (fLst [(.ex (eTup [(.ex (eXnF "NoOption" "option" (eXn "NoOption" "option" (eVar 0)))), (.ex (eCall 1 fn_l_kinds [] [(.ex (eXn "NoOption" "option" (eVar 0)))])), (.ex (eIsX2 tbxp_NoName tbxp_NoRow (eXn "NoOption" "option" (eVar 0))))]))]))
def t_l_others_2 : SX :=
    (sMut 1 (sApp 1 (eTup [(.ex (eXnF "NoRow" "row" (eXn "NoRow" "row" (eVar 0)))), (.ex (eCall 1 fn_l_kinds [] [(.ex (eXn "NoRow" "row" (eVar 0)))])), (.ex (eIsX2 tbxp_NoSpan tbxp_NoOption (eXn "NoRow" "row" (eVar 0))))])))
def t_l_others_3 : SX :=
    (sMut 1 (sApp 1 (eTup [(.ex (eXnF "NoSpan" "index" (eXn "NoSpan" "index" (eVar 0)))), (.ex (eCall 1 fn_l_kinds [] [(.ex (eXn "NoSpan" "index" (eVar 0)))])), (.ex (eIsX2 tbxp_NoRow tbxp_NoName (eXn "NoSpan" "index" (eVar 0))))])))
def t_l_others_4 : SX :=
    (sMut 1 (sApp 1 (eTup [(.ex (eXnF "NoName" "name" (eXn "NoName" "name" (eVar 0)))), (.ex (eCall 1 fn_l_kinds [] [(.ex (eXn "NoName" "name" (eVar 0)))])), (.ex (eIsX2 tbxp_NoOption tbxp_NoSpan (eXn "NoName" "name" (eVar 0))))])))
def t_l_others_5 : SX :=
    (sMut 1 (sApp 1 (eTup [(.ex (eXnF "TooMany" "limit" (eXn "TooMany" "limit" (eVar 0)))), (.ex (eCall 1 fn_l_kinds [] [(.ex (eXn "TooMany" "limit" (eVar 0)))])), (.ex (eIsX2 tbxp_TooWide tbxp_TooFar (eXn "TooMany" "limit" (eVar 0))))])))
def t_l_others_6 : SX :=
    (sMut 1 (sApp 1 (eTup [(.ex (eXnF "TooWide" "limit" (eXn "TooWide" "limit" (eVar 0)))), (.ex (eCall 1 fn_l_kinds [] [(.ex (eXn "TooWide" "limit" (eVar 0)))])), (.ex (eIsX2 tbxp_TooMany tbxp_Endless (eXn "TooWide" "limit" (eVar 0))))])))
def t_l_others_7 : SX :=
    (sMut 1 (sApp 1 (eTup [(.ex (eXnF "TooFar" "edge" (eXn "TooFar" "edge" (eVar 0)))), (.ex (eCall 1 fn_l_kinds [] [(.ex (eXn "TooFar" "edge" (eVar 0)))])), (.ex (eIsX2 tbxp_Endless tbxp_TooWide (eXn "TooFar" "edge" (eVar 0))))])))
def t_l_others_8 : SX :=
    (sMut 1 (sApp 1 (eTup [(.ex (eXnF "Endless" "span" (eXn "Endless" "span" (eVar 0)))), (.ex (eCall 1 fn_l_kinds [] [(.ex (eXn "Endless" "span" (eVar 0)))])), (.ex (eIsX2 tbxp_TooFar tbxp_TooMany (eXn "Endless" "span" (eVar 0))))])))
def t_l_others_9 : SX :=
    (sMut 1 (sApp 1 (eTup [(.ex (eXnF "NoWindow" "user" (eXn "NoWindow" "user" (eVar 0)))), (.ex (eCall 1 fn_l_kinds [] [(.ex (eXn "NoWindow" "user" (eVar 0)))])), (.ex (eIsX tbxp_Unfit (eXn "NoWindow" "user" (eVar 0))))])))
def t_l_others_10 : SX :=
    (sMut 1 (sApp 1 (eTup [(.ex (eXnF "Unfit" "wish" (eXn "Unfit" "wish" (eVar 0)))), (.ex (eCall 1 fn_l_kinds [] [(.ex (eXn "Unfit" "wish" (eVar 0)))])), (.ex (eIsX tbxp_NoWindow (eXn "Unfit" "wish" (eVar 0))))])))
def t_l_others_11 : SX :=
    (sRetF (fOwn 1))
def sem_l_others : SX :=
    (sSeq t_l_others_1
    (sSeq t_l_others_2
    (sSeq t_l_others_3
    (sSeq t_l_others_4
    (sSeq t_l_others_5
    (sSeq t_l_others_6
    (sSeq t_l_others_7
    (sSeq t_l_others_8
    (sSeq t_l_others_9
    (sSeq t_l_others_10
    t_l_others_11))))))))))
def fn_l_others : List Cell → Rs (List D) := fnN (fnBF 2 sem_l_others)
section
variable {P : Program} {w : World} {K : PySem.W.Frag} {mg : Str → Option Value} {bh : Heap}
theorem ok_l_others {f : Addr} {fd : FuncData} {cm : Str → Addr} {fI_NoOption : Addr} {fdE_NoOption : FuncData} {fI_NoRow : Addr} {fdE_NoRow : FuncData} {fI_NoSpan : Addr} {fdE_NoSpan : FuncData} {fI_NoName : Addr} {fdE_NoName : FuncData} {fI_TooMany : Addr} {fdE_TooMany : FuncData} {fI_TooWide : Addr} {fdE_TooWide : FuncData} {fI_TooFar : Addr} {fdE_TooFar : FuncData} {fI_Endless : Addr} {fdE_Endless : FuncData} {fI_NoWindow : Addr} {fdE_NoWindow : FuncData} {fI_Unfit : Addr} {fdE_Unfit : FuncData} {f_l_kinds : Addr} {fd_l_kinds : FuncData} (B : Blt mg) (T : Txt K mg) (KI : Kits K mg cm) (E_NoOption : ErrB P w K mg bh "NoOption" "option" (cm "NoOption") fI_NoOption fdE_NoOption) (E_NoRow : ErrB P w K mg bh "NoRow" "row" (cm "NoRow") fI_NoRow fdE_NoRow) (E_NoSpan : ErrB P w K mg bh "NoSpan" "index" (cm "NoSpan") fI_NoSpan fdE_NoSpan) (E_NoName : ErrB P w K mg bh "NoName" "name" (cm "NoName") fI_NoName fdE_NoName) (E_TooMany : ErrB P w K mg bh "TooMany" "limit" (cm "TooMany") fI_TooMany fdE_TooMany) (E_TooWide : ErrB P w K mg bh "TooWide" "limit" (cm "TooWide") fI_TooWide fdE_TooWide) (E_TooFar : ErrB P w K mg bh "TooFar" "edge" (cm "TooFar") fI_TooFar fdE_TooFar) (E_Endless : ErrB P w K mg bh "Endless" "span" (cm "Endless") fI_Endless fdE_Endless) (E_NoWindow : ErrB P w K mg bh "NoWindow" "user" (cm "NoWindow") fI_NoWindow fdE_NoWindow) (E_Unfit : ErrB P w K mg bh "Unfit" "wish" (cm "Unfit") fI_Unfit fdE_Unfit) (R_l_kinds : Rdy P w K mg bh "_law_kinds" 1 ["_law_e"] (spD (Gx.mk K cm none TT) 1 fn_l_kinds) f_l_kinds fd_l_kinds) (F : Fun K "_law_others" "_law_others" s_l_others f fd) : FnOk P w K mg bh CX0 3 f fd ["_law_x"] (spF (Gx.mk K cm none TT) 1 fn_l_others) := by
  refine F.ok sc_l_others (spQ_len rfl) (fun cdv A outer s H vs Q E hr h => ?_)
  exact body_ofNF (G := (Gx.mk K cm none TT))
      (dss_cons (ds_own (i := 1) sc_l_others.nd (df_lst (da_cons (de_tup (da_cons (de_xnF (g := "option") E_NoOption.xf E_NoOption.noF (de_xnMk (c := "NoOption") E_NoOption hr (by decide) (by rfl) (de_var (i := 0)))) (da_cons (de_call R_l_kinds hr (by decide) (by rfl) (da_cons (de_xnMk (c := "NoOption") E_NoOption hr (by decide) (by rfl) (de_var (i := 0))) da_nil)) (da_cons (de_isX2 (de_xnMk (c := "NoOption") E_NoOption hr (by decide) (by rfl) (de_var (i := 0))) KI.xp_NoName KI.xp_NoRow (.own _) (.own _) (pe_glob (v := .ref (cm "NoName")) (by rfl) E_NoName.gC rfl) (pe_glob (v := .ref (cm "NoRow")) (by rfl) E_NoRow.gC rfl) (by rfl) B.b_isinstance) da_nil)))) da_nil)))
      (dss_cons (ds_app (i := 1) (de_tup (da_cons (de_xnF (g := "row") E_NoRow.xf E_NoRow.noF (de_xnMk (c := "NoRow") E_NoRow hr (by decide) (by rfl) (de_var (i := 0)))) (da_cons (de_call R_l_kinds hr (by decide) (by rfl) (da_cons (de_xnMk (c := "NoRow") E_NoRow hr (by decide) (by rfl) (de_var (i := 0))) da_nil)) (da_cons (de_isX2 (de_xnMk (c := "NoRow") E_NoRow hr (by decide) (by rfl) (de_var (i := 0))) KI.xp_NoSpan KI.xp_NoOption (.own _) (.own _) (pe_glob (v := .ref (cm "NoSpan")) (by rfl) E_NoSpan.gC rfl) (pe_glob (v := .ref (cm "NoOption")) (by rfl) E_NoOption.gC rfl) (by rfl) B.b_isinstance) da_nil)))))
      (dss_cons (ds_app (i := 1) (de_tup (da_cons (de_xnF (g := "index") E_NoSpan.xf E_NoSpan.noF (de_xnMk (c := "NoSpan") E_NoSpan hr (by decide) (by rfl) (de_var (i := 0)))) (da_cons (de_call R_l_kinds hr (by decide) (by rfl) (da_cons (de_xnMk (c := "NoSpan") E_NoSpan hr (by decide) (by rfl) (de_var (i := 0))) da_nil)) (da_cons (de_isX2 (de_xnMk (c := "NoSpan") E_NoSpan hr (by decide) (by rfl) (de_var (i := 0))) KI.xp_NoRow KI.xp_NoName (.own _) (.own _) (pe_glob (v := .ref (cm "NoRow")) (by rfl) E_NoRow.gC rfl) (pe_glob (v := .ref (cm "NoName")) (by rfl) E_NoName.gC rfl) (by rfl) B.b_isinstance) da_nil)))))
      (dss_cons (ds_app (i := 1) (de_tup (da_cons (de_xnF (g := "name") E_NoName.xf E_NoName.noF (de_xnMk (c := "NoName") E_NoName hr (by decide) (by rfl) (de_var (i := 0)))) (da_cons (de_call R_l_kinds hr (by decide) (by rfl) (da_cons (de_xnMk (c := "NoName") E_NoName hr (by decide) (by rfl) (de_var (i := 0))) da_nil)) (da_cons (de_isX2 (de_xnMk (c := "NoName") E_NoName hr (by decide) (by rfl) (de_var (i := 0))) KI.xp_NoOption KI.xp_NoSpan (.own _) (.own _) (pe_glob (v := .ref (cm "NoOption")) (by rfl) E_NoOption.gC rfl) (pe_glob (v := .ref (cm "NoSpan")) (by rfl) E_NoSpan.gC rfl) (by rfl) B.b_isinstance) da_nil)))))
      (dss_cons (ds_app (i := 1) (de_tup (da_cons (de_xnF (g := "limit") E_TooMany.xf E_TooMany.noF (de_xnMk (c := "TooMany") E_TooMany hr (by decide) (by rfl) (de_var (i := 0)))) (da_cons (de_call R_l_kinds hr (by decide) (by rfl) (da_cons (de_xnMk (c := "TooMany") E_TooMany hr (by decide) (by rfl) (de_var (i := 0))) da_nil)) (da_cons (de_isX2 (de_xnMk (c := "TooMany") E_TooMany hr (by decide) (by rfl) (de_var (i := 0))) KI.xp_TooWide KI.xp_TooFar (.own _) (.own _) (pe_glob (v := .ref (cm "TooWide")) (by rfl) E_TooWide.gC rfl) (pe_glob (v := .ref (cm "TooFar")) (by rfl) E_TooFar.gC rfl) (by rfl) B.b_isinstance) da_nil)))))
      (dss_cons (ds_app (i := 1) (de_tup (da_cons (de_xnF (g := "limit") E_TooWide.xf E_TooWide.noF (de_xnMk (c := "TooWide") E_TooWide hr (by decide) (by rfl) (de_var (i := 0)))) (da_cons (de_call R_l_kinds hr (by decide) (by rfl) (da_cons (de_xnMk (c := "TooWide") E_TooWide hr (by decide) (by rfl) (de_var (i := 0))) da_nil)) (da_cons (de_isX2 (de_xnMk (c := "TooWide") E_TooWide hr (by decide) (by rfl) (de_var (i := 0))) KI.xp_TooMany KI.xp_Endless (.own _) (.own _) (pe_glob (v := .ref (cm "TooMany")) (by rfl) E_TooMany.gC rfl) (pe_glob (v := .ref (cm "Endless")) (by rfl) E_Endless.gC rfl) (by rfl) B.b_isinstance) da_nil)))))
      (dss_cons (ds_app (i := 1) (de_tup (da_cons (de_xnF (g := "edge") E_TooFar.xf E_TooFar.noF (de_xnMk (c := "TooFar") E_TooFar hr (by decide) (by rfl) (de_var (i := 0)))) (da_cons (de_call R_l_kinds hr (by decide) (by rfl) (da_cons (de_xnMk (c := "TooFar") E_TooFar hr (by decide) (by rfl) (de_var (i := 0))) da_nil)) (da_cons (de_isX2 (de_xnMk (c := "TooFar") E_TooFar hr (by decide) (by rfl) (de_var (i := 0))) KI.xp_Endless KI.xp_TooWide (.own _) (.own _) (pe_glob (v := .ref (cm "Endless")) (by rfl) E_Endless.gC rfl) (pe_glob (v := .ref (cm "TooWide")) (by rfl) E_TooWide.gC rfl) (by rfl) B.b_isinstance) da_nil)))))
      (dss_cons (ds_app (i := 1) (de_tup (da_cons (de_xnF (g := "span") E_Endless.xf E_Endless.noF (de_xnMk (c := "Endless") E_Endless hr (by decide) (by rfl) (de_var (i := 0)))) (da_cons (de_call R_l_kinds hr (by decide) (by rfl) (da_cons (de_xnMk (c := "Endless") E_Endless hr (by decide) (by rfl) (de_var (i := 0))) da_nil)) (da_cons (de_isX2 (de_xnMk (c := "Endless") E_Endless hr (by decide) (by rfl) (de_var (i := 0))) KI.xp_TooFar KI.xp_TooMany (.own _) (.own _) (pe_glob (v := .ref (cm "TooFar")) (by rfl) E_TooFar.gC rfl) (pe_glob (v := .ref (cm "TooMany")) (by rfl) E_TooMany.gC rfl) (by rfl) B.b_isinstance) da_nil)))))
      (dss_cons (ds_app (i := 1) (de_tup (da_cons (de_xnF (g := "user") E_NoWindow.xf E_NoWindow.noF (de_xnMk (c := "NoWindow") E_NoWindow hr (by decide) (by rfl) (de_var (i := 0)))) (da_cons (de_call R_l_kinds hr (by decide) (by rfl) (da_cons (de_xnMk (c := "NoWindow") E_NoWindow hr (by decide) (by rfl) (de_var (i := 0))) da_nil)) (da_cons (de_isX (de_xnMk (c := "NoWindow") E_NoWindow hr (by decide) (by rfl) (de_var (i := 0))) KI.xp_Unfit (.own _) (pe_glob (v := .ref (cm "Unfit")) (by rfl) E_Unfit.gC rfl) (by rfl) B.b_isinstance) da_nil)))))
      (dss_cons (ds_app (i := 1) (de_tup (da_cons (de_xnF (g := "wish") E_Unfit.xf E_Unfit.noF (de_xnMk (c := "Unfit") E_Unfit hr (by decide) (by rfl) (de_var (i := 0)))) (da_cons (de_call R_l_kinds hr (by decide) (by rfl) (da_cons (de_xnMk (c := "Unfit") E_Unfit hr (by decide) (by rfl) (de_var (i := 0))) da_nil)) (da_cons (de_isX (de_xnMk (c := "Unfit") E_Unfit hr (by decide) (by rfl) (de_var (i := 0))) KI.xp_NoWindow (.own _) (pe_glob (v := .ref (cm "NoWindow")) (by rfl) E_NoWindow.gC rfl) (by rfl) B.b_isinstance) da_nil)))))
      (dss_one (ds_retF (df_own (i := 1))))))))))))))
      rfl h
end
/-! law -/
abbrev s_law : Stmt := topS 37
abbrev sc_law_N : List Str := ["_law_script", "_law_at", "_law_bag_here", "_law_one", "_law_other", "_law_kept", "_law_due"]
theorem sc_law : FnScope sc_law_N ["_law_script"] (defScope s_law) := ⟨rfl, rfl, rfl, by decide +kernel, rfl, by decide +kernel, by decide +kernel⟩
def t_law_1 : SX :=
    (sOwn 2 (eCall 2 fn_l_bag [] [(.ex (eVar 0)), (.ex (eVar 1))]))
def t_law_2 : SX :=
    (sPar 3 4 [(.ex (eCall 2 fn_l_any [] [(.sl 2), (.ex (eC (.int 3)))])), (.ex (eCall 2 fn_l_any [] [(.sl 2), (.ex (eC (.int 2)))]))])
def t_law_3 : SX :=
    (sSet 5 (eXn "BadItem" "index" (eVar 3)))
def t_law_4 : SX :=
    (sIf (bBl (eOp (op2 neD) [(.ex (eOp (op1 reprD) [(.ex (eFr (eCall 1 fn_l_values [] [(.ex (eVar 3))])))])), (.ex (eOp (op1 reprD) [(.ex (eOp (op2 repD) [(.ex (eFr (fLst [(.ex (eTup [(.ex (eVar 3)), (.ex (eFr (fLst [(.ex (eC (.int 0)))]))), (.ex (eC (.bl false)))]))]))), (.ex (eC (.int 19)))]))]))]))
    (sRet (eC (.bl false)))
    sNil)
def t_law_5 : SX :=
    (sSet 6 (eOp (op2 addD) [(.ex (eOp (op2 addD) [(.ex (eOp (op2 repD) [(.ex (eFr (fLst [(.ex (eTup [(.ex (eVar 4)), (.ex (eFr (fLst [(.ex (eC (.int 1)))]))), (.ex (eC (.bl false)))]))]))), (.ex (eC (.int 4)))])), (.ex (eOp (op2 repD) [(.ex (eFr (fLst [(.ex (eTup [(.ex (eVar 4)), (.ex (eFr (fLst [(.ex (eC (.int 2)))]))), (.ex (eC (.bl false)))]))]))), (.ex (eC (.int 4)))]))])), (.ex (eOp (op2 repD) [(.ex (eFr (fLst [(.ex (eTup [(.ex (eVar 4)), (.ex (eFr (fLst [(.ex (eC (.int 3)))]))), (.ex (eC (.bl false)))]))]))), (.ex (eC (.int 2)))]))]))
def t_law_6 : SX :=
    (sIf (bOr (bBl (eOp (op2 neD) [(.ex (eOp (op1 reprD) [(.ex (eFr (eCall 1 fn_l_others [] [(.ex (eVar 4))])))])), (.ex (eOp (op1 reprD) [(.ex (eVar 6))]))])) (bBl (eOp (op2 neD) [(.ex (eOp (op1 reprD) [(.ex (eXnF "BadItem" "index" (eXn "BadItem" "index" (eVar 4))))])), (.ex (eOp (op1 reprD) [(.ex (eVar 4))]))])))
    (sRet (eC (.bl false)))
    sNil)
def t_law_7 : SX :=
    (sIf (bBl (eOp (op2 neD) [(.ex (eOp (op1 reprD) [(.ex (eXnF "BadItem" "index" (eVar 5)))])), (.ex (eOp (op1 reprD) [(.ex (eVar 3))]))]))
    (sRet (eC (.bl false)))
    sNil)
def b_law_1 : SX :=
    (sSeq t_law_1
    (sSeq t_law_2
    (sSeq t_law_3
    (sSeq t_law_4
    (sSeq t_law_5
    (sSeq t_law_6
    t_law_7))))))
def t_law_8 : SX :=
    (sFor (fRng1 (eOp (op2 maxD) [(.ex (eC (.int 1))), (.ex (eOp (op2 minD) [(.ex (eOp (op1 lenD) [(.ex (eVar 0))])), (.ex (eC (.int 20)))]))])) (gSet 1)
    b_law_1)
def t_law_9 : SX :=
    (sRet (eC (.bl true)))
def sem_law : SX :=
    (sSeq t_law_8
    t_law_9)
def fn_law : List Cell → Rs D := fnN (fnB 7 sem_law)
section
variable {P : Program} {w : World} {K : PySem.W.Frag} {mg : Str → Option Value} {bh : Heap}
theorem ok_law {f : Addr} {fd : FuncData} {cm : Str → Addr} {fI_BadItem : Addr} {fdE_BadItem : FuncData} {f_l_bag : Addr} {fd_l_bag : FuncData} {f_l_any : Addr} {fd_l_any : FuncData} {f_l_values : Addr} {fd_l_values : FuncData} {f_l_others : Addr} {fd_l_others : FuncData} (B : Blt mg) (T : Txt K mg) (KI : Kits K mg cm) (E_BadItem : ErrB P w K mg bh "BadItem" "index" (cm "BadItem") fI_BadItem fdE_BadItem) (R_l_bag : Rdy P w K mg bh "_law_bag" 1 ["_law_script", "_law_at"] (spF (Gx.mk K cm none TT) 2 fn_l_bag) f_l_bag fd_l_bag) (R_l_any : Rdy P w K mg bh "_law_any" 10 ["_law_bag_here", "_law_deep"] (spD (Gx.mk K cm none TT) 2 fn_l_any) f_l_any fd_l_any) (R_l_values : Rdy P w K mg bh "_law_values" 3 ["_law_x"] (spF (Gx.mk K cm none TT) 1 fn_l_values) f_l_values fd_l_values) (R_l_others : Rdy P w K mg bh "_law_others" 3 ["_law_x"] (spF (Gx.mk K cm none TT) 1 fn_l_others) f_l_others fd_l_others) (F : Fun K "law" "law" s_law f fd) : FnG P w K mg bh 11 f fd ["_law_script"] (spD (Gx.mk K cm none TT) 1 fn_law) := by
  refine Fun.okG F sc_law (spQ_len rfl) (fun cdv A outer s H vs Q E gd hr h => ?_)
  exact body_ofN (G := (Gx.mk K cm none TT))
      (dss_cons (ds_for (di_rng1 (de_callB cd_max2 (by rfl) B.b_max (by decide +kernel) (da_cons de_int (da_cons (de_callB cd_min2 (by rfl) B.b_min (by decide +kernel) (da_cons (de_callB cd_len (by rfl) B.b_len (by decide +kernel) (da_cons (de_var (i := 0)) da_nil)) (da_cons de_int da_nil))) da_nil))) (by rfl) B.b_range) (dg_name sc_law.nd (i := 1))
      (dss_cons (ds_own (i := 2) sc_law.nd (df_call R_l_bag hr (by decide) (by rfl) (da_cons (de_var (i := 0)) (da_cons (de_var (i := 1)) da_nil))))
      (dss_cons (ds_par (i := 3) (j := 4) sc_law.nd (da_cons (de_call R_l_any hr (by decide) (by rfl) (da_cons (do_sl (i := 2)) (da_cons de_int da_nil))) (da_cons (de_call R_l_any hr (by decide) (by rfl) (da_cons (do_sl (i := 2)) (da_cons de_int da_nil))) da_nil)))
      (dss_cons (ds_set (i := 5) sc_law.nd (de_xnMk (c := "BadItem") E_BadItem hr (by decide) (by rfl) (de_var (i := 3))))
      (dss_cons (ds_if (dt_cmp (od_ne hr.units) (de_callB (cd_repr gd hr) (by rfl) B.b_repr (by decide +kernel) (da_cons (DF.de (df_call R_l_values hr (by decide) (by rfl) (da_cons (de_var (i := 3)) da_nil))) da_nil)) (de_callB (cd_repr gd hr) (by rfl) B.b_repr (by decide +kernel) (da_cons (de_bin od_rep (DF.de (df_lst (da_cons (de_tup (da_cons (de_var (i := 3)) (da_cons (DF.de (df_lst (da_cons de_int da_nil))) (da_cons de_bl da_nil)))) da_nil))) de_int) da_nil)) (nomark _))
      (dss_one (ds_ret de_bl))
      dss_nil)
      (dss_cons (ds_set (i := 6) sc_law.nd (de_bin od_add (de_bin od_add (de_bin od_rep (DF.de (df_lst (da_cons (de_tup (da_cons (de_var (i := 4)) (da_cons (DF.de (df_lst (da_cons de_int da_nil))) (da_cons de_bl da_nil)))) da_nil))) de_int) (de_bin od_rep (DF.de (df_lst (da_cons (de_tup (da_cons (de_var (i := 4)) (da_cons (DF.de (df_lst (da_cons de_int da_nil))) (da_cons de_bl da_nil)))) da_nil))) de_int)) (de_bin od_rep (DF.de (df_lst (da_cons (de_tup (da_cons (de_var (i := 4)) (da_cons (DF.de (df_lst (da_cons de_int da_nil))) (da_cons de_bl da_nil)))) da_nil))) de_int)))
      (dss_cons (ds_if (DW.pt (dw_or (dt_cmp (od_ne hr.units) (de_callB (cd_repr gd hr) (by rfl) B.b_repr (by decide +kernel) (da_cons (DF.de (df_call R_l_others hr (by decide) (by rfl) (da_cons (de_var (i := 4)) da_nil))) da_nil)) (de_callB (cd_repr gd hr) (by rfl) B.b_repr (by decide +kernel) (da_cons (de_var (i := 6)) da_nil)) (nomark _)) (dw_or1 (dt_cmp (od_ne hr.units) (de_callB (cd_repr gd hr) (by rfl) B.b_repr (by decide +kernel) (da_cons (de_xnF (g := "index") E_BadItem.xf E_BadItem.noF (de_xnMk (c := "BadItem") E_BadItem hr (by decide) (by rfl) (de_var (i := 4)))) da_nil)) (de_callB (cd_repr gd hr) (by rfl) B.b_repr (by decide +kernel) (da_cons (de_var (i := 4)) da_nil)) (nomark _)))))
      (dss_one (ds_ret de_bl))
      dss_nil)
      (dss_one (ds_if (dt_cmp (od_ne hr.units) (de_callB (cd_repr gd hr) (by rfl) B.b_repr (by decide +kernel) (da_cons (de_xnF (g := "index") E_BadItem.xf E_BadItem.noF (de_var (i := 5))) da_nil)) (de_callB (cd_repr gd hr) (by rfl) B.b_repr (by decide +kernel) (da_cons (de_var (i := 3)) da_nil)) (nomark _))
      (dss_one (ds_ret de_bl))
      dss_nil)))))))) PassesOwn.never)
      (dss_one (ds_ret de_bl)))
      rfl h
end
end Spk
namespace Spk
open PySem PySem.Spec PyProof.Rows L2
/-! ### facts of every law -/
def nbO : Option Cell → Bool
  | some (.bor _) => false
  | _ => true
def oc : Option D → Cell
  | none => .no
  | some d => .val d
theorem notBor_eq (ρ : PEnv) (i : Nat) : notBor ρ i = nbO ρ[i]? := by unfold notBor nbO; rfl
theorem nbO_val (d : D) : nbO (some (.val d)) = true := rfl
theorem nbO_no : nbO (some .no) = true := rfl
theorem nbO_own (m : Mu) : nbO (some (.own m)) = true := rfl
theorem nbO_oc (x : Option D) : nbO (some (oc x)) = true := by cases x <;> rfl
theorem oc_mu (x : Option D) : (oc x).mu? = none := by cases x <;> rfl
theorem oc_noX (x : Option D) : (oc x).noX = true := by cases x <;> rfl
theorem at2_0 {α : Type} (a b : α) : atI [a, b] 0 = some a := rfl
theorem at2_1 {α : Type} (a b : α) : atI [a, b] 1 = some b := rfl
theorem at3_0 {α : Type} (a b c : α) : atI [a, b, c] 0 = some a := rfl
theorem at3_1 {α : Type} (a b c : α) : atI [a, b, c] 1 = some b := rfl
theorem at3_2 {α : Type} (a b c : α) : atI [a, b, c] 2 = some c := rfl
theorem set3_0 (a b c e : D) : setG 0 e [a, b, c] = some [e, b, c] := rfl
theorem set3_1 (a b c e : D) : setG 1 e [a, b, c] = some [a, e, c] := rfl
theorem set3_2 (a b c e : D) : setG 2 e [a, b, c] = some [a, b, e] := rfl
theorem set2_0 (a b e : D) : setG 0 e [a, b] = some [e, b] := rfl
theorem set2_1 (a b e : D) : setG 1 e [a, b] = some [a, e] := rfl
theorem at4_0 {α : Type} (a b c d : α) : atI [a, b, c, d] 0 = some a := rfl
theorem at4_1 {α : Type} (a b c d : α) : atI [a, b, c, d] 1 = some b := rfl
theorem at4_2 {α : Type} (a b c d : α) : atI [a, b, c, d] 2 = some c := rfl
theorem at4_3 {α : Type} (a b c d : α) : atI [a, b, c, d] 3 = some d := rfl
theorem set4_0 (a b c d e : D) : setG 0 e [a, b, c, d] = some [e, b, c, d] := rfl
theorem set4_3 (a b c d e : D) : setG 3 e [a, b, c, d] = some [a, b, c, e] := rfl
abbrev prT (p : Pr) : D := .tup [.int p.1, .int p.2]
theorem lt_ii (i j : Int) : ltD (.int i) (.int j) = some (.bl (decide (i < j))) := rfl
theorem le_ii (i j : Int) : leD (.int i) (.int j) = some (.bl (decide (i ≤ j))) := rfl
theorem gt_ii (i j : Int) : gtD (.int i) (.int j) = some (.bl (decide (j < i))) := rfl
theorem ge_ii (i j : Int) : geD (.int i) (.int j) = some (.bl (decide (j ≤ i))) := rfl
theorem neg_i (i : Int) : negD (.int i) = some (.int (-i)) := rfl
theorem add_ii (i j : Int) : addD (.int i) (.int j) = some (.int (i + j)) := rfl
theorem sub_ii (i j : Int) : subD (.int i) (.int j) = some (.int (i - j)) := rfl
theorem max_ii (i j : Int) : maxD (.int i) (.int j) = some (.int (if i < j then j else i)) := rfl
theorem min_ii (i j : Int) : minD (.int i) (.int j) = some (.int (if j < i then j else i)) := rfl
theorem add_ll (xs ys : List D) : addD (.lst xs) (.lst ys) = if xs.length + ys.length ≤ sizeLine then some (.lst (xs ++ ys)) else none := rfl
theorem add_tt (xs ys : List D) : addD (.tup xs) (.tup ys) = if xs.length + ys.length ≤ sizeLine then some (.tup (xs ++ ys)) else none := rfl
theorem ix_l (ds : List D) (i : Int) : ixD (.lst ds) (.int i) = atI ds i := rfl
theorem ix_t (ds : List D) (i : Int) : ixD (.tup ds) (.int i) = atI ds i := rfl
theorem len_l (ds : List D) : lenD (.lst ds) = some (.int ds.length) := rfl
theorem len_t (ds : List D) : lenD (.tup ds) = some (.int ds.length) := rfl
theorem len_scr (ns : List Int) : lenD (.scr ns) = some (.int ns.length) := rfl
theorem ix_pr0 (p : Pr) : ixD (prT p) (.int 0) = some (.int p.1) := rfl
theorem ix_pr1 (p : Pr) : ixD (prT p) (.int 1) = some (.int p.2) := rfl
theorem isi_pr (tb : List (String × Bool)) (ow : List (Str × Bool)) (p : Pr) : isiD tb ow (prT p) = tb.lookup "tuple" := rfl
theorem gTup_pr (gs : List D → PEnv → Option PEnv) (p : Pr) (ρ : PEnv) : gTupD 2 gs (prT p) ρ = gs [.int p.1, .int p.2] ρ := rfl
theorem eqv_i (i j : Int) : eqv (.int i) (.int j) = decide (i = j) := by
  unfold eqv
  rw [Bool.eq_iff_iff]
  simp [D.py, PyData.eqv]
theorem eqv_s (x y : Str) : eqv (.str x) (.str y) = decide (x = y) := by
  unfold eqv
  rw [Bool.eq_iff_iff]
  simp [D.py, PyData.eqv]
theorem eq_ii (i j : Int) : eqD (.int i) (.int j) = some (.bl (decide (i = j))) := by
  unfold eqD
  rw [if_pos ⟨rfl, rfl⟩, eqv_i]
theorem ne_ii (i j : Int) : neD (.int i) (.int j) = some (.bl (!decide (i = j))) := by
  unfold neD
  rw [if_pos ⟨rfl, rfl⟩, eqv_i]
theorem eq_ss (x y : Str) : eqD (.str x) (.str y) = some (.bl (decide (x = y))) := by
  unfold eqD
  rw [if_pos ⟨rfl, rfl⟩, eqv_s]
theorem ne_ss (x y : Str) : neD (.str x) (.str y) = some (.bl (!decide (x = y))) := by
  unfold neD
  rw [if_pos ⟨rfl, rfl⟩, eqv_s]
theorem eq_bb (x y : Bool) : eqD (.bl x) (.bl y) = some (.bl (decide (x = y))) := by
  unfold eqD
  rw [if_pos ⟨rfl, rfl⟩]
  cases x <;> cases y <;> simp [eqv, D.py, PyData.eqv]
theorem ne_bb (x y : Bool) : neD (.bl x) (.bl y) = some (.bl (!decide (x = y))) := by
  unfold neD
  rw [if_pos ⟨rfl, rfl⟩]
  cases x <;> cases y <;> simp [eqv, D.py, PyData.eqv]
/-- a comprehension that draws -/
theorem lcD_ex {vs : List Nat} {g : TGf} {f : EX} (P : Nat → PEnv → Prop) (Qy : D → Prop) : ∀ (ds : List D) (i N : Nat) (ρ : PEnv), i + ds.length ≤ N → P i ρ → (∀ d ∈ ds, ∀ i ρ, i < N → P i ρ → ∃ ρ1 ρ3 y, g d (wipeE ρ vs) = some ρ1 ∧ f ρ1 = .ok y ρ3 ∧ P (i + 1) (backE ρ3 ρ vs) ∧ Qy y) →
    ∃ ys ρ', lcD vs g bYes f ds ρ = .ok ys ρ' ∧ P (i + ds.length) ρ' ∧ ys.length = ds.length ∧ ∀ y ∈ ys, Qy y
  | [], i, N, ρ, _, h0, _ => ⟨[], ρ, rfl, h0, rfl, fun _ h => absurd h List.not_mem_nil⟩
  | d :: ds, i, N, ρ, hN, h0, hs => by
    rw [List.length_cons] at hN
    obtain ⟨ρ1, ρ3, y, h1, h2, h3, h4⟩ := hs d List.mem_cons_self i ρ (by omega) h0
    obtain ⟨ys, ρ', h5, h6, h7, h8⟩ := lcD_ex P Qy ds (i + 1) N _ (by omega) h3 fun d' hd => hs d' (List.mem_cons_of_mem _ hd)
    refine ⟨y :: ys, ρ', ?_, by rw [List.length_cons, show i + (ds.length + 1) = i + 1 + ds.length by omega]; exact h6, by simp [h7], fun z hz => ?_⟩
    · have hb : (bYes ρ1).nx = .ok true ρ1 := rfl
      unfold lcD
      rw [h1]
      simp only [hb, Rs.bind_ok, if_true, h2, Rs.nx_ok, h5]
    · rcases List.mem_cons.mp hz with rfl | hz
      · exact h4
      · exact h8 z hz
theorem mul_ok {i j : Int} (hi : i.natAbs < 2 ^ 200) (hj : j.natAbs < 2 ^ 200) : mulD (.int i) (.int j) = some (.int (i * j)) := by
  have h1 : i.natAbs.log2 < 1000 := by
    rcases Nat.eq_zero_or_pos i.natAbs with h | h
    · rw [h]; decide
    · exact Nat.lt_trans ((Nat.log2_lt (by omega)).mpr hi) (by decide)
  have h2 : j.natAbs.log2 < 1000 := by
    rcases Nat.eq_zero_or_pos j.natAbs with h | h
    · rw [h]; decide
    · exact Nat.lt_trans ((Nat.log2_lt (by omega)).mpr hj) (by decide)
  show Option.map D.int (mulG i j) = _
  unfold mulG
  rw [if_pos (by omega)]; rfl
theorem div_ok {i j : Int} (h0 : 0 < j) (hj : j.natAbs < 2 ^ 200) : divD (.int i) (.int j) = some (.int (i / j)) := by
  have h2 : j.natAbs.log2 < 1000 := by
    exact Nat.lt_trans ((Nat.log2_lt (by omega)).mpr hj) (by decide)
  show Option.map D.int (divG i j) = _
  unfold divG
  rw [if_pos ⟨h0, by omega⟩]; rfl
theorem mod_ok {i j : Int} (h0 : 0 < j) : modD (.int i) (.int j) = some (.int (i % j)) := by
  show Option.map D.int (modG i j) = _
  unfold modG
  rw [if_pos h0]; rfl
theorem pow_ok {i : Int} {n : Nat} (hn : n ≤ 1000) (hi : i.natAbs < 2 ^ 64) : powD (.int i) (.int n) = some (.int (i ^ n)) := by
  show Option.map D.int (powG i n) = _
  unfold powG
  rw [if_pos ⟨by omega, by omega, hi⟩]; rfl
theorem int_i (i : Int) : intD (.int i) = some (.int i) := rfl
theorem pow2_ok {i : Int} (hi : i.natAbs < 2 ^ 64) : powD (.int i) (.int 2) = some (.int (i ^ 2)) := pow_ok (n := 2) (by decide) hi
theorem pow3_ok {i : Int} (hi : i.natAbs < 2 ^ 64) : powD (.int i) (.int 3) = some (.int (i ^ 3)) := pow_ok (n := 3) (by decide) hi
theorem pow6 : powD (.int 10) (.int 6) = some (.int 1000000) := rfl
theorem pow15 : powD (.int 10) (.int 15) = some (.int 1000000000000000) := rfl
theorem pow18 : powD (.int 10) (.int 18) = some (.int 1000000000000000000) := rfl
theorem pow20 : powD (.int 10) (.int 20) = some (.int 100000000000000000000) := rfl
theorem pow30 : powD (.int 10) (.int 30) = some (.int 1000000000000000000000000000000) := rfl
theorem pow31 : powD (.int 10) (.int 31) = some (.int 10000000000000000000000000000000) := rfl
theorem abs_i (i : Int) : absD (.int i) = some (.int (if i < 0 then -i else i)) := rfl
theorem rngD_len (lo : Int) (n : Nat) : (rngD lo n).length = n := by simp [rngD]
theorem isN_int (i : Int) (n : Bool) : isNonD n (.int i) .non = some (.bl n) := by cases n <;> rfl
theorem isN_non (n : Bool) : isNonD n .non .non = some (.bl !n) := by cases n <;> rfl
theorem rng1_ok {f : EX} {ρ ρ' : PEnv} {j : Int} (h : f ρ = .ok (.int j) ρ') (h1 : -(2 ^ 62) ≤ j) (h2 : j < 2 ^ 62) : fRng1 f ρ = .ok (rngD 0 j.toNat) ρ' := by
  unfold fRng1
  rw [h]
  exact if_pos ⟨h1, h2⟩
theorem lc_ok {it : PEnv → Rs (List D)} {vs : List Nat} {g : TGf} {c : BX} {f : EX} {ρ ρ1 : PEnv} {ds : List D} {r : Rs (List D)} (h : it ρ = .ok ds ρ1) (hn : noMut ρ1 vs = true) (hl : ds.length ≤ 16777216) (hk : lcD vs g c f ds ρ1 = r) : fLc it vs g c f ρ = r := by
  unfold fLc
  rw [h]
  exact (if_pos ⟨hn, hl⟩).trans hk
/-- an item -/
theorem at_mem {ds : List D} {r : Int} (h0 : 0 ≤ r) (h1 : r < ds.length) : ∃ d, d ∈ ds ∧ atI ds r = some d := by
  obtain ⟨k, rfl⟩ : ∃ k : Nat, r = k := ⟨r.toNat, by omega⟩
  have hk : k < ds.length := by omega
  refine ⟨ds[k], List.getElem_mem hk, ?_⟩
  unfold atI ixN
  rw [if_pos h0, if_pos h1]
  simp [List.getElem?_eq_getElem hk]
theorem at_nat {α : Type} {ds : List α} {k : Nat} : atI ds (k : Int) = ds[k]? := by
  unfold atI ixN
  rw [if_pos (by omega)]
  by_cases h : (k : Int) < ds.length
  · rw [if_pos h]; rfl
  · rw [if_neg h, List.getElem?_eq_none (by omega)]; rfl
/-! ### how a run ends -/
/-- nx: it goes on; rt: it gives back -/
def wS (N : PEnv → Prop) (T : D → PEnv → Prop) : Sr → Prop
  | .nx ρ => N ρ
  | .rt d ρ => T d ρ
  | _ => False
theorem wS_seq {N : PEnv → Prop} {T : D → PEnv → Prop} {f g : SX} {ρ : PEnv} (h : wS (fun ρ' => wS N T (g ρ')) T (f ρ)) : wS N T (sSeq f g ρ) := by
  unfold sSeq
  cases hf : f ρ with
  | nx ρ' => rw [hf] at h; exact h
  | rt d ρ' => rw [hf] at h; exact h
  | rf d ρ' => rw [hf] at h; exact h
  | bk ρ' => rw [hf] at h; exact h
  | ct ρ' => rw [hf] at h; exact h
  | exc c x d ρ' => rw [hf] at h; exact h
  | bad => rw [hf] at h; exact h
/-- the next statement goes on -/
theorem go {N : PEnv → Prop} {T : D → PEnv → Prop} {f g : SX} {ρ ρ' : PEnv} (h : f ρ = .nx ρ') (k : wS N T (g ρ')) : wS N T (sSeq f g ρ) := wS_seq (by rw [h]; exact k)
theorem if_yes {t : BX} {f g : SX} {ρ ρ' : PEnv} (h : t ρ = .ok true ρ') : sIf t f g ρ = f ρ' := by
  unfold sIf
  rw [h]; rfl
theorem if_no {t : BX} {f g : SX} {ρ ρ' : PEnv} (h : t ρ = .ok false ρ') : sIf t f g ρ = g ρ' := by
  unfold sIf
  rw [h]; rfl
theorem fn_of {cs : List Cell} {m : Nat} {f : SX} {P : D → List Cell → Prop} (h : wS (fun ρ => ∃ es, finC cs ρ = some es ∧ P .non es) (fun d ρ => ∃ es, finC cs ρ = some es ∧ P d es) (f (cs ++ List.replicate (m - cs.length) .no))) : ∃ d es, fnN (fnB m f) cs = .ok d es ∧ P d es := by
  unfold fnN fnB
  cases hf : f (cs ++ List.replicate (m - cs.length) .no) with
  | nx ρ =>
    rw [hf] at h
    obtain ⟨es, h1, h2⟩ := h
    exact ⟨.non, es, by simp [h1], h2⟩
  | rt d ρ =>
    rw [hf] at h
    obtain ⟨es, h1, h2⟩ := h
    exact ⟨d, es, by simp [h1], h2⟩
  | _ => rw [hf] at h; exact h.elim
theorem fn_rt {cs es : List Cell} {m : Nat} {f : SX} {d : D} {ρ : PEnv} (h : f (cs ++ List.replicate (m - cs.length) .no) = .rt d ρ) (hf : finC cs ρ = some es) : fnN (fnB m f) cs = .ok d es := by
  unfold fnN fnB
  simp only [h, hf, Rs.nx_ok]
/-- a loop whose turns keep a fact -/
theorem loop_c {g : TGf} {body : SX} (P : D → Prop) (Q : PEnv → Prop) (hb : ∀ d ρ, P d → Q ρ → ∃ ρ1 ρ2, g d ρ = some ρ1 ∧ body ρ1 = .nx ρ2 ∧ Q ρ2) : ∀ (ds : List D) (ρ : PEnv), (∀ d ∈ ds, P d) → Q ρ → ∃ ρ', loopD g body ds ρ = .nx ρ' ∧ Q ρ'
  | [], ρ, _, h => ⟨ρ, rfl, h⟩
  | d :: ds, ρ, hp, h => by
    obtain ⟨ρ1, ρ2, e1, e2, q⟩ := hb d ρ (hp d List.mem_cons_self) h
    obtain ⟨ρ', e3, q'⟩ := loop_c P Q hb ds ρ2 (fun x hx => hp x (List.mem_cons_of_mem _ hx)) q
    refine ⟨ρ', ?_, q'⟩
    unfold loopD
    rw [e1]
    simp only [e2, e3]
theorem for_ok {it : PEnv → Rs (List D)} {g : TGf} {body : SX} {ρ ρ1 : PEnv} {ds : List D} {r : Sr} (h : it ρ = .ok ds ρ1) (k : loopD g body ds ρ1 = r) : sFor it g body ρ = r := by
  unfold sFor
  rw [h]; exact k
theorem rngD_mem {d : D} {n : Nat} (h : d ∈ rngD 0 n) : ∃ i : Nat, i < n ∧ d = .int i := by
  unfold rngD at h
  obtain ⟨k, hk, rfl⟩ := List.mem_map.mp h
  exact ⟨k, List.mem_range.mp hk, by simp⟩
theorem seq_nx {f g : SX} {ρ ρ1 : PEnv} (h : f ρ = .nx ρ1) : sSeq f g ρ = g ρ1 := by
  unfold sSeq
  rw [h]; rfl
end Spk
namespace Spk
open PySem PySem.Spec PyProof.Rows L2
/-! ### draws of the laws over spans -/
def Bg (n : Nat) (m : Mu) : Prop := ∃ x y z w : Int, m = .lst [.int x, .int y, .int z, .int w] ∧ 0 ≤ x ∧ 0 ≤ y ∧ y < 2305843009213693951 ∧ 0 ≤ z ∧ z ≤ 1000000 ∧ 0 ≤ w ∧ w ≤ n
theorem Bg.more {n k : Nat} {m : Mu} (b : Bg n m) (h : n ≤ k) : Bg k m := by
  obtain ⟨x, y, z, w, e, h1, h2, h3, h4, h5, h6, h7⟩ := b
  exact ⟨x, y, z, w, e, h1, h2, h3, h4, h5, h6, by omega⟩
theorem take_ok {n : Nat} {m : Mu} {k : Int} (b : Bg n m) (hn : n ≤ 1000000) (h0 : 0 < k) (hk : k.natAbs < 2 ^ 200) :
    ∃ r m', fn_l_take [.bor m, .val (.int k)] = .ok (.int r) [.bor m', .val (.int k)] ∧ 0 ≤ r ∧ r < k ∧ Bg (n + 1) m' := by
  obtain ⟨x, y, z, w, rfl, x0, y0, y1, z0, z1, w0, w1⟩ := b
  by_cases c : 0 < x
  · refine ⟨x % k, .lst [.int (x / k), .int y, .int z, .int w], ?_, Int.emod_nonneg _ (by omega), Int.emod_lt_of_pos _ h0, _, _, _, _, rfl, Int.ediv_nonneg x0 (by omega), y0, y1, z0, z1, w0, by omega⟩
    unfold fn_l_take sem_l_take
    simp [fnN, fnB, fnBF, sSeq, sRet, sRetF, sRetN, sIf, sSet, sNil, sExpr, sOwn, sPar, sAsg, sMut, sApp, sPut, eVar, eC, eOp, eCall, eAnd, eOr, eNot, eIf, eTup, eFr, fLst, Opd.ev, evs, Arg.dat, dats, vals?, op1, op2, appF, cells, Arg.cell, sls, wb, finC, eChain, bAnd, bOr, bNot, bBl, bTru, truth, lt_ii, le_ii, gt_ii, ge_ii, neg_i, add_ii, sub_ii, max_ii, min_ii, add_ll, add_tt, sizeLine_eq, gTupD, gsCons, gsNil, gSet, notBor_eq, nbO_val, nbO_no, nbO_own, nbO_oc, ix_l, ix_t, Cell.mu?, Cell.lst?, Mu.lst?, len_l, len_t, eIsi, isi_pr, isiD, tyS, List.lookup, gTup_pr, ix_pr0, ix_pr1, at2_0, at2_1, D.fit, D.pure, pures, D.py, pys, PyData.depth, PyData.depthAll, at3_0, at3_1, at3_2, set3_0, set3_1, set3_2, set2_0, set2_1, eq_ii, ne_ii, eq_ss, ne_ss, eq_bb, ne_bb, int_i, abs_i, Cell.put, putAt, len_scr, isN_int, isN_non, oc_mu, oc_noX, nbO_oc, sTry, trS, exS, Sr.out, dropX, noExn, Cell.noX, eXf, eXis, sRaiseB, eMethN, eMethX, noKey, isIns, eConI, eMkKN, eMkKX, eMkX, eMk, eFld, fldD, sFor, fSeq, seqD, eSFld, sFldS, putK, pow6, pow15, pow18, pow20, pow30, pow31, eOpX, eOpN, gSqD, sParF, sParE, eCallK, sIns, eJs, joinE, FPart.ev, fmtD, eJoin, gPl, gNil, gSeq, gYield, gFor, fMethN, fMethX, onlyX, eMethKX, eMethKN, eCallKPX, eCallKPN, fMethFX, fMethKX, fMethKN, t_l_take_1, at4_0, set4_0, c, mod_ok h0, div_ok h0 hk]
  · have c1 : (y + 7368787 * (w + 1) + z).natAbs < 2 ^ 64 := by omega
    have c2 : (y + 7368787 * (w + 1) + z) ^ 2 % 2305843009213693921 < 2305843009213693921 := Int.emod_lt_of_pos _ (by decide)
    have c3 : 0 ≤ (y + 7368787 * (w + 1) + z) ^ 2 % 2305843009213693921 := Int.emod_nonneg _ (by decide)
    have m1 := mul_ok (i := 7368787) (j := w + 1) (by decide) (by omega)
    have m2 := mul_ok (i := 32452867) (j := w + 1) (by decide) (by omega)
    have p2 := pow2_ok c1
    have d1 := mod_ok (i := (y + 7368787 * (w + 1) + z) ^ 2) (j := 2305843009213693921) (by decide)
    generalize (y + 7368787 * (w + 1) + z) ^ 2 % 2305843009213693921 = u at *
    have p3 := pow3_ok (i := u + 32452867 * (w + 1)) (by omega)
    have d2 := mod_ok (i := (u + 32452867 * (w + 1)) ^ 3) (j := 2305843009213693951) (by decide)
    have d3 := div_ok (i := (u + 32452867 * (w + 1)) ^ 3 % 2305843009213693951) (j := 4096) (by decide) (by decide)
    refine ⟨(u + 32452867 * (w + 1)) ^ 3 % 2305843009213693951 / 4096 % k, .lst [.int x, .int y, .int z, .int (w + 1)], ?_, Int.emod_nonneg _ (by omega), Int.emod_lt_of_pos _ h0, _, _, _, _, rfl, x0, y0, y1, z0, z1, by omega, by omega⟩
    unfold fn_l_take sem_l_take
    simp [fnN, fnB, fnBF, sSeq, sRet, sRetF, sRetN, sIf, sSet, sNil, sExpr, sOwn, sPar, sAsg, sMut, sApp, sPut, eVar, eC, eOp, eCall, eAnd, eOr, eNot, eIf, eTup, eFr, fLst, Opd.ev, evs, Arg.dat, dats, vals?, op1, op2, appF, cells, Arg.cell, sls, wb, finC, eChain, bAnd, bOr, bNot, bBl, bTru, truth, lt_ii, le_ii, gt_ii, ge_ii, neg_i, add_ii, sub_ii, max_ii, min_ii, add_ll, add_tt, sizeLine_eq, gTupD, gsCons, gsNil, gSet, notBor_eq, nbO_val, nbO_no, nbO_own, nbO_oc, ix_l, ix_t, Cell.mu?, Cell.lst?, Mu.lst?, len_l, len_t, eIsi, isi_pr, isiD, tyS, List.lookup, gTup_pr, ix_pr0, ix_pr1, at2_0, at2_1, D.fit, D.pure, pures, D.py, pys, PyData.depth, PyData.depthAll, at3_0, at3_1, at3_2, set3_0, set3_1, set3_2, set2_0, set2_1, eq_ii, ne_ii, eq_ss, ne_ss, eq_bb, ne_bb, int_i, abs_i, Cell.put, putAt, len_scr, isN_int, isN_non, oc_mu, oc_noX, nbO_oc, sTry, trS, exS, Sr.out, dropX, noExn, Cell.noX, eXf, eXis, sRaiseB, eMethN, eMethX, noKey, isIns, eConI, eMkKN, eMkKX, eMkX, eMk, eFld, fldD, sFor, fSeq, seqD, eSFld, sFldS, putK, pow6, pow15, pow18, pow20, pow30, pow31, eOpX, eOpN, gSqD, sParF, sParE, eCallK, sIns, eJs, joinE, FPart.ev, fmtD, eJoin, gPl, gNil, gSeq, gYield, gFor, fMethN, fMethX, onlyX, eMethKX, eMethKN, eCallKPX, eCallKPN, fMethFX, fMethKX, fMethKN, t_l_take_1, t_l_take_2, t_l_take_3, t_l_take_4, t_l_take_5, at4_0, at4_1, at4_2, at4_3, set4_3, c, mod_ok h0, m1, m2, p2, p3, d1, d2, d3]
theorem bag_ok {ns : List Int} {i : Nat} (hi : i ≤ 63) : ∃ ds, fn_l_bag [.val (.scr ns), .val (.int i)] = .ok ds [.val (.scr ns), .val (.int i)] ∧ Bg 0 (.lst ds) := by
  let cl : Int := if i < ns.length then ns.getD i 0 else 0
  have m1 := mul_ok (i := 6151) (j := (i : Int)) (by decide) (by omega)
  have d1 := mod_ok (i := cl) (j := 2305843009213693951) (by decide)
  have d2 : cl % 2305843009213693951 < 2305843009213693951 := Int.emod_lt_of_pos _ (by decide)
  have d3 : 0 ≤ cl % 2305843009213693951 := Int.emod_nonneg _ (by decide)
  refine ⟨[.int (if 1000000000000000000 ≤ (if cl < 0 then -cl else cl) then (if cl < 0 then -cl else cl) else 0), .int (cl % 2305843009213693951), .int (6151 * i + 389), .int 0], ?_, _, _, _, _, rfl, by split <;> (try split) <;> omega, d3, d2, by omega, by omega, by omega, by omega⟩
  unfold fn_l_bag sem_l_bag
  by_cases c : i < ns.length
  · have e : ixD (.scr ns) (.int i) = some (.int cl) := by
      show (atI ns (i : Int)).map D.int = _
      have : cl = ns[i] := by
        show (if i < ns.length then ns.getD i 0 else 0) = _
        rw [if_pos c, List.getD_eq_getElem?_getD, List.getElem?_eq_getElem c]; rfl
      rw [at_nat, List.getElem?_eq_getElem c, this]; rfl
    by_cases c2 : 1000000000000000000 ≤ (if cl < 0 then -cl else cl) <;> simp [fnN, fnB, fnBF, sSeq, sRet, sRetF, sRetN, sIf, sSet, sNil, sExpr, sOwn, sPar, sAsg, sMut, sApp, sPut, eVar, eC, eOp, eCall, eAnd, eOr, eNot, eIf, eTup, eFr, fLst, Opd.ev, evs, Arg.dat, dats, vals?, op1, op2, appF, cells, Arg.cell, sls, wb, finC, eChain, bAnd, bOr, bNot, bBl, bTru, truth, lt_ii, le_ii, gt_ii, ge_ii, neg_i, add_ii, sub_ii, max_ii, min_ii, add_ll, add_tt, sizeLine_eq, gTupD, gsCons, gsNil, gSet, notBor_eq, nbO_val, nbO_no, nbO_own, nbO_oc, ix_l, ix_t, Cell.mu?, Cell.lst?, Mu.lst?, len_l, len_t, eIsi, isi_pr, isiD, tyS, List.lookup, gTup_pr, ix_pr0, ix_pr1, at2_0, at2_1, D.fit, D.pure, pures, D.py, pys, PyData.depth, PyData.depthAll, at3_0, at3_1, at3_2, set3_0, set3_1, set3_2, set2_0, set2_1, eq_ii, ne_ii, eq_ss, ne_ss, eq_bb, ne_bb, int_i, abs_i, Cell.put, putAt, len_scr, isN_int, isN_non, oc_mu, oc_noX, nbO_oc, sTry, trS, exS, Sr.out, dropX, noExn, Cell.noX, eXf, eXis, sRaiseB, eMethN, eMethX, noKey, isIns, eConI, eMkKN, eMkKX, eMkX, eMk, eFld, fldD, sFor, fSeq, seqD, eSFld, sFldS, putK, pow6, pow15, pow18, pow20, pow30, pow31, eOpX, eOpN, gSqD, sParF, sParE, eCallK, sIns, eJs, joinE, FPart.ev, fmtD, eJoin, gPl, gNil, gSeq, gYield, gFor, fMethN, fMethX, onlyX, eMethKX, eMethKN, eCallKPX, eCallKPN, fMethFX, fMethKX, fMethKN, t_l_bag_1, t_l_bag_2, c, e, c2, m1, d1, fLst]
  · have e0 : cl = 0 := if_neg c
    simp [fnN, fnB, fnBF, sSeq, sRet, sRetF, sRetN, sIf, sSet, sNil, sExpr, sOwn, sPar, sAsg, sMut, sApp, sPut, eVar, eC, eOp, eCall, eAnd, eOr, eNot, eIf, eTup, eFr, fLst, Opd.ev, evs, Arg.dat, dats, vals?, op1, op2, appF, cells, Arg.cell, sls, wb, finC, eChain, bAnd, bOr, bNot, bBl, bTru, truth, lt_ii, le_ii, gt_ii, ge_ii, neg_i, add_ii, sub_ii, max_ii, min_ii, add_ll, add_tt, sizeLine_eq, gTupD, gsCons, gsNil, gSet, notBor_eq, nbO_val, nbO_no, nbO_own, nbO_oc, ix_l, ix_t, Cell.mu?, Cell.lst?, Mu.lst?, len_l, len_t, eIsi, isi_pr, isiD, tyS, List.lookup, gTup_pr, ix_pr0, ix_pr1, at2_0, at2_1, D.fit, D.pure, pures, D.py, pys, PyData.depth, PyData.depthAll, at3_0, at3_1, at3_2, set3_0, set3_1, set3_2, set2_0, set2_1, eq_ii, ne_ii, eq_ss, ne_ss, eq_bb, ne_bb, int_i, abs_i, Cell.put, putAt, len_scr, isN_int, isN_non, oc_mu, oc_noX, nbO_oc, sTry, trS, exS, Sr.out, dropX, noExn, Cell.noX, eXf, eXis, sRaiseB, eMethN, eMethX, noKey, isIns, eConI, eMkKN, eMkKX, eMkX, eMk, eFld, fldD, sFor, fSeq, seqD, eSFld, sFldS, putK, pow6, pow15, pow18, pow20, pow30, pow31, eOpX, eOpN, gSqD, sParF, sParE, eCallK, sIns, eJs, joinE, FPart.ev, fmtD, eJoin, gPl, gNil, gSeq, gYield, gFor, fMethN, fMethX, onlyX, eMethKX, eMethKN, eCallKPX, eCallKPN, fMethFX, fMethKX, fMethKN, t_l_bag_1, t_l_bag_2, c, m1, fLst, e0, mod_ok, mul_ok]
end Spk
namespace Spk
open PySem PySem.Spec PyProof.Rows L2
/-! ### data that may be shown -/
theorem st_join {sep : Str} (hs : PyData.canLay0 (.str sep) = true) : ∀ {ts : List Str}, (∀ t ∈ ts, PyData.canLay0 (.str t) = true) → PyData.canLay0 (.str (Str.join sep ts)) = true
  | [], _ => by
    show PyData.canLay0 (.str Str.empty) = true
    decide +kernel
  | [x], h => h x List.mem_cons_self
  | x :: y :: r, h => by
    show PyData.canLay0 (.str (x ++ sep ++ Str.join sep (y :: r))) = true
    exact st_app (st_app (h x List.mem_cons_self) hs) (st_join hs fun t ht => h t (List.mem_cons_of_mem _ ht))
theorem st_from : ∀ {ts : List Str} {k : Nat} {acc : Str}, PyData.canLay0 (.str acc) = true → (∀ t ∈ ts, PyData.canLay0 (.str t) = true) → PyData.canLay0 (.str (textFrom k acc ts)) = true
  | [], k, acc, h, _ => h
  | t :: r, k, acc, h, ht => by
    show PyData.canLay0 (.str (textFrom (k + 1) (acc ++ (if k > 0 then ", " else "" : String) ++ t) r)) = true
    exact st_from (st_app (st_app h (ofS_ok _)) (ht t List.mem_cons_self)) fun z hz => ht z (List.mem_cons_of_mem _ hz)
structure Nc (n b : Nat) (d : D) : Prop where
  pu : d.pure = true
  sh : d.py.showable = true
  nd : d.py.hasDict = false
  dp : d.py.depth ≤ n
  lf : d.py.leavesShort 60 = true
  bk : d.py.bulk ≤ b
  st : PyData.canLay0 (.str d.py.shown) = true
theorem Nc.more {n b n' b' : Nat} {d : D} (h : Nc n b d) (h1 : n ≤ n') (h2 : b ≤ b') : Nc n' b' d := ⟨h.pu, h.sh, h.nd, Nat.le_trans h.dp h1, h.lf, Nat.le_trans h.bk h2, h.st⟩
theorem Nc.repr {n b : Nat} {d : D} (h : Nc n b d) (h1 : n ≤ 64) (h2 : b ≤ 200000) : reprD d = some (.str d.py.shown) := by
  have l := PyData.shown_le_bulk 60 (by decide) d.py h.lf
  have := h.bk
  unfold reprD
  rw [if_pos ⟨h.pu, h.sh, h.nd, Nat.le_trans h.dp h1, by rw [sizeLine_eq]; omega, h.st⟩]
structure NcA (n b : Nat) (ds : List D) : Prop where
  pu : pures ds = true
  sh : PyData.showableAll (pys ds) = true
  nd : PyData.hasDictAll (pys ds) = false
  dp : PyData.depthAll (pys ds) ≤ n
  lf : PyData.leavesShortAll 60 (pys ds) = true
  bk : PyData.bulkAll (pys ds) ≤ ds.length * (b + 1)
  st : ∀ t ∈ PyData.shownAll (pys ds), PyData.canLay0 (.str t) = true
theorem ncA {n b : Nat} : ∀ {ds : List D}, (∀ d ∈ ds, Nc n b d) → NcA n b ds
  | [], _ => ⟨rfl, rfl, rfl, Nat.zero_le _, rfl, Nat.zero_le _, fun _ h => nomatch h⟩
  | d :: ds, h => by
    have a := h d List.mem_cons_self
    have t := ncA fun x hx => h x (List.mem_cons_of_mem _ hx)
    refine ⟨?_, ?_, ?_, ?_, ?_, ?_, ?_⟩
    · show (d.pure && pures ds) = true
      rw [a.pu, t.pu]; rfl
    · simp only [pys, PyData.showableAll, a.sh, t.sh]; rfl
    · simp only [pys, PyData.hasDictAll, a.nd, t.nd]; rfl
    · simp only [pys, PyData.depthAll]; exact Nat.max_le.mpr ⟨a.dp, t.dp⟩
    · simp only [pys, PyData.leavesShortAll, a.lf, t.lf]; rfl
    · simp only [pys, PyData.bulkAll, List.length_cons, Nat.add_mul, Nat.one_mul]
      have h1 := a.bk
      have h2 := t.bk
      omega
    · intro z hz
      simp only [pys, PyData.shownAll] at hz
      rcases List.mem_cons.mp hz with rfl | hz
      · exact a.st
      · exact t.st z hz
theorem nc_lst {n b : Nat} {ds : List D} (h : ∀ d ∈ ds, Nc n b d) : Nc (n + 1) (ds.length * (b + 1)) (.lst ds) := by
  have t := ncA h
  refine ⟨t.pu, by simp only [D.py, PyData.showable]; exact t.sh, by simp only [D.py, PyData.hasDict]; exact t.nd, ?_, by simp only [D.py, PyData.leavesShort]; exact t.lf, by simp only [D.py, PyData.bulk]; exact t.bk, ?_⟩
  · simp only [D.py, PyData.depth]; have := t.dp; omega
  · simp only [D.py, PyData.shown, listText]
    exact st_app (st_from (ofS_ok _) t.st) (ofS_ok _)
theorem nc_tup {n b : Nat} {ds : List D} (h : ∀ d ∈ ds, Nc n b d) : Nc (n + 1) (ds.length * (b + 1)) (.tup ds) := by
  have t := ncA h
  refine ⟨t.pu, by simp only [D.py, PyData.showable]; exact t.sh, by simp only [D.py, PyData.hasDict]; exact t.nd, ?_, by simp only [D.py, PyData.leavesShort]; exact t.lf, by simp only [D.py, PyData.bulk]; exact t.bk, ?_⟩
  · simp only [D.py, PyData.depth]; have := t.dp; omega
  · simp only [D.py, PyData.shown, tupleText]
    exact st_app (st_app (ofS_ok _) (st_join (ofS_ok _) t.st)) (ofS_ok _)
theorem nc_int {i : Int} (h : i.natAbs < 1000000000000000000000000000000000000000000000) : Nc 0 0 (.int i) := by
  have s := sm_int (i := i) (by omega) (by omega)
  exact ⟨rfl, s.sh, s.nd, Nat.zero_le _, s.lf, Nat.zero_le _, by show PyData.canLay0 (.str (PyData.int i).shown) = true; rw [PyData.shown_int]; exact ofS_ok _⟩
theorem nc_bl (b : Bool) : Nc 0 0 (.bl b) := by
  cases b <;> exact ⟨rfl, rfl, rfl, Nat.zero_le _, by decide +kernel, Nat.zero_le _, by decide +kernel⟩
theorem nc_non : Nc 0 0 .non := ⟨rfl, rfl, rfl, Nat.zero_le _, by decide +kernel, Nat.zero_le _, by decide +kernel⟩
def wordsT : List D := [.str "", .str "high", .str "0", .str "none", .str "a b"]
theorem words_b : ∀ d ∈ wordsT, (d.pure && d.py.showable && !d.py.hasDict && decide (d.py.depth ≤ 0) && d.py.leavesShort 60 && decide (d.py.bulk ≤ 10) && PyData.canLay0 (.str d.py.shown)) = true := by decide +kernel
theorem nc_word {d : D} (h : d ∈ wordsT) : Nc 0 10 d := by
  have q := words_b d h
  simp only [Bool.and_eq_true, Bool.not_eq_true', decide_eq_true_eq] at q
  obtain ⟨⟨⟨⟨⟨⟨a, b⟩, c⟩, e⟩, f⟩, g⟩, i⟩ := q
  exact ⟨a, b, c, e, f, g, i⟩
theorem rep_ne {n b : Nat} {d : D} {f g : EX} {ρ : PEnv} (h : Nc n b d) (h1 : n ≤ 64) (h2 : b ≤ 200000) (hf : f ρ = .ok d ρ) (hg : g ρ = .ok d ρ) : bBl (eOp (op2 neD) [(.ex (eOp (op1 reprD) [.ex f])), (.ex (eOp (op1 reprD) [.ex g]))]) ρ = .ok false ρ := by
  have e := h.repr h1 h2
  have n : neD (.str d.py.shown) (.str d.py.shown) = some (.bl false) := by
    rw [ne_ss]; simp
  simp [fnN, fnB, fnBF, sSeq, sRet, sRetF, sRetN, sIf, sSet, sNil, sExpr, sOwn, sPar, sAsg, sMut, sApp, sPut, eVar, eC, eOp, eCall, eAnd, eOr, eNot, eIf, eTup, eFr, fLst, Opd.ev, evs, Arg.dat, dats, vals?, op1, op2, appF, cells, Arg.cell, sls, wb, finC, eChain, bAnd, bOr, bNot, bBl, bTru, truth, lt_ii, le_ii, gt_ii, ge_ii, neg_i, add_ii, sub_ii, max_ii, min_ii, add_ll, add_tt, sizeLine_eq, gTupD, gsCons, gsNil, gSet, notBor_eq, nbO_val, nbO_no, nbO_own, nbO_oc, ix_l, ix_t, Cell.mu?, Cell.lst?, Mu.lst?, len_l, len_t, eIsi, isi_pr, isiD, tyS, List.lookup, gTup_pr, ix_pr0, ix_pr1, at2_0, at2_1, D.fit, D.pure, pures, D.py, pys, PyData.depth, PyData.depthAll, at3_0, at3_1, at3_2, set3_0, set3_1, set3_2, set2_0, set2_1, eq_ii, ne_ii, eq_ss, ne_ss, eq_bb, ne_bb, int_i, abs_i, Cell.put, putAt, len_scr, isN_int, isN_non, oc_mu, oc_noX, nbO_oc, sTry, trS, exS, Sr.out, dropX, noExn, Cell.noX, eXf, eXis, sRaiseB, eMethN, eMethX, noKey, isIns, eConI, eMkKN, eMkKX, eMkX, eMk, eFld, fldD, sFor, fSeq, seqD, eSFld, sFldS, putK, pow6, pow15, pow18, pow20, pow30, pow31, eOpX, eOpN, gSqD, sParF, sParE, eCallK, sIns, eJs, joinE, FPart.ev, fmtD, eJoin, gPl, gNil, gSeq, gYield, gFor, fMethN, fMethX, onlyX, eMethKX, eMethKN, eCallKPX, eCallKPN, fMethFX, fMethKX, fMethKN, hf, hg, e, n]
end Spk
namespace Spk
open PySem PySem.Spec PyProof.Rows L2
/-! ### _law_any -/
theorem eop1_ok {op : D → Option D} {f : EX} {ρ ρ1 : PEnv} {x z : D} (h1 : f ρ = .ok x ρ1) (h : op x = some z) : eOp (op1 op) [.ex f] ρ = .ok z ρ1 := by
  simp [eOp, evs, Opd.ev, h1, dats, Arg.dat, op1, h, Rs.lift]
theorem eop2_ok {op : D → D → Option D} {f g : EX} {ρ ρ1 ρ2 : PEnv} {x y z : D} (h1 : f ρ = .ok x ρ1) (h2 : g ρ1 = .ok y ρ2) (h : op x y = some z) : eOp (op2 op) [.ex f, .ex g] ρ = .ok z ρ2 := by
  simp [eOp, evs, Opd.ev, h1, h2, dats, Arg.dat, op2, h, Rs.lift]
theorem bb_ok {E : EX} {ρ ρ1 : PEnv} {b : Bool} (h : E ρ = .ok (.bl b) ρ1) : bBl E ρ = .ok b ρ1 := by
  simp [bBl, h]
theorem if_noS {t : BX} {f g : SX} {ρ : PEnv} (h : t ρ = .ok false ρ) : sIf t f g ρ = g ρ := if_no h
theorem if_yesS {t : BX} {f g : SX} {ρ : PEnv} (h : t ρ = .ok true ρ) : sIf t f g ρ = f ρ := if_yes h
theorem ifn {t : BX} {f : SX} {ρ : PEnv} (h : t ρ = .ok false ρ) : sIf t f sNil ρ = .nx ρ := (if_noS h).trans rfl
theorem efr_ok {f : PEnv → Rs (List D)} {ρ ρ1 : PEnv} {ds : List D} (h : f ρ = .ok ds ρ1) : eFr f ρ = .ok (.lst ds) ρ1 := by
  unfold eFr; rw [h]; rfl
theorem set_ok {i : Nat} {f : EX} {ρ ρ1 : PEnv} {d : D} (h : f ρ = .ok d ρ1) (n : nbO ρ1[i]? = true) : sSet i f ρ = .nx (ρ1.set i (.val d)) := by
  unfold sSet
  rw [h]
  show (if _ then _ else _) = _
  rw [if_pos (by rw [notBor_eq]; exact n)]
theorem ret_ok {f : EX} {ρ ρ1 : PEnv} {d : D} (h : f ρ = .ok d ρ1) : sRet f ρ = .rt d ρ1 := by
  simp [fnN, fnB, fnBF, sSeq, sRet, sRetF, sRetN, sIf, sSet, sNil, sExpr, sOwn, sPar, sAsg, sMut, sApp, sPut, eVar, eC, eOp, eCall, eAnd, eOr, eNot, eIf, eTup, eFr, fLst, Opd.ev, evs, Arg.dat, dats, vals?, op1, op2, appF, cells, Arg.cell, sls, wb, finC, eChain, bAnd, bOr, bNot, bBl, bTru, truth, lt_ii, le_ii, gt_ii, ge_ii, neg_i, add_ii, sub_ii, max_ii, min_ii, add_ll, add_tt, sizeLine_eq, gTupD, gsCons, gsNil, gSet, notBor_eq, nbO_val, nbO_no, nbO_own, nbO_oc, ix_l, ix_t, Cell.mu?, Cell.lst?, Mu.lst?, len_l, len_t, eIsi, isi_pr, isiD, tyS, List.lookup, gTup_pr, ix_pr0, ix_pr1, at2_0, at2_1, D.fit, D.pure, pures, D.py, pys, PyData.depth, PyData.depthAll, at3_0, at3_1, at3_2, set3_0, set3_1, set3_2, set2_0, set2_1, eq_ii, ne_ii, eq_ss, ne_ss, eq_bb, ne_bb, int_i, abs_i, Cell.put, putAt, len_scr, isN_int, isN_non, oc_mu, oc_noX, nbO_oc, sTry, trS, exS, Sr.out, dropX, noExn, Cell.noX, eXf, eXis, sRaiseB, eMethN, eMethX, noKey, isIns, eConI, eMkKN, eMkKX, eMkX, eMk, eFld, fldD, sFor, fSeq, seqD, eSFld, sFldS, putK, pow6, pow15, pow18, pow20, pow30, pow31, eOpX, eOpN, gSqD, sParF, sParE, eCallK, sIns, eJs, joinE, FPart.ev, fmtD, eJoin, gPl, gNil, gSeq, gYield, gFor, fMethN, fMethX, onlyX, eMethKX, eMethKN, eCallKPX, eCallKPN, fMethFX, fMethKX, fMethKN, h]
theorem seq_rt {f g : SX} {ρ ρ1 : PEnv} {d : D} (h : f ρ = .rt d ρ1) : sSeq f g ρ = .rt d ρ1 := by
  unfold sSeq
  rw [h]; rfl
theorem eif_t {c : BX} {f g : EX} {ρ ρ1 : PEnv} {r : Rs D} (h : c ρ = .ok true ρ1) (k : f ρ1 = r) : eIf c f g ρ = r := by
  unfold eIf; rw [h]; exact k
theorem eif_f {c : BX} {f g : EX} {ρ ρ1 : PEnv} {r : Rs D} (h : c ρ = .ok false ρ1) (k : g ρ1 = r) : eIf c f g ρ = r := by
  unfold eIf; rw [h]; exact k
/-- a call that is lent the bag, which is lent here -/
theorem slb {fn : List Cell → Rs D} {i : Nat} {g : EX} {ρ : PEnv} {y d : D} {m m' : Mu} (h2 : ρ[i]? = some (.bor m)) (hg : g ρ = .ok y ρ) (h : fn [.bor m, .val y] = .ok d [.bor m', .val y]) : eCall 2 fn [] [.sl i, .ex g] ρ = .ok d (ρ.set i (.bor m')) := by
  have e : evs [.sl i, .ex g] ρ = .ok [.sl i, .val y] ρ := by simp [evs, Opd.ev, hg, h2, Cell.mu?]
  unfold eCall
  rw [e, Rs.bind_ok]
  have c : cells ρ [.sl i, .val y] = some [.bor m, .val y] := by simp [cells, Arg.cell, h2, Cell.mu?]
  have w : wb [.sl i, .val y] [.bor m', .val y] ρ = some (ρ.set i (.bor m')) := by simp [wb, h2, Cell.put]
  unfold appF
  rw [if_pos ⟨rfl, by simp [sls]⟩]
  simp only [c, List.map_nil, List.append_nil, h, w]
  rfl
theorem slx {fn : List Cell → Rs D} {i : Nat} {g : EX} {ρ : PEnv} {y d : D} {m m' : Mu} (h2 : ρ[i]? = some (.own m)) (hg : g ρ = .ok y ρ) (h : fn [.bor m, .val y] = .ok d [.bor m', .val y]) : eCall 2 fn [] [.sl i, .ex g] ρ = .ok d (ρ.set i (.own m')) := by
  have e : evs [.sl i, .ex g] ρ = .ok [.sl i, .val y] ρ := by simp [evs, Opd.ev, hg, h2, Cell.mu?]
  unfold eCall
  rw [e, Rs.bind_ok]
  have c : cells ρ [.sl i, .val y] = some [.bor m, .val y] := by simp [cells, Arg.cell, h2, Cell.mu?]
  have w : wb [.sl i, .val y] [.bor m', .val y] ρ = some (ρ.set i (.own m')) := by simp [wb, h2, Cell.put]
  unfold appF
  rw [if_pos ⟨rfl, by simp [sls]⟩]
  simp only [c, List.map_nil, List.append_nil, h, w]
  rfl
def AE (m : Mu) (k : Nat) (c2 c3 c4 : Cell) : PEnv := [.bor m, .val (.int k), c2, c3, c4]
def cst : Nat → Nat
  | 0 => 3
  | k + 1 => 2 + 3 * cst k
def blk : Nat → Nat
  | 0 => 10
  | k + 1 => 3 * (blk k + 1)
theorem cst_3 (k : Nat) : 3 ≤ cst k := by
  induction k with
  | zero => exact Nat.le_refl _
  | succ k ih => show 3 ≤ 2 + 3 * cst k; omega
theorem blk_10 (k : Nat) : 10 ≤ blk k := by
  induction k with
  | zero => exact Nat.le_refl _
  | succ k ih => show 10 ≤ 3 * (blk k + 1); omega
theorem pw40 : powD (.int 10) (.int 40) = some (.int 10000000000000000000000000000000000000000) := rfl
theorem pw7 : powD (.int 10) (.int 7) = some (.int 10000000) := rfl
theorem ix_at {ds : List D} {r : Int} {d : D} (h : atI ds r = some d) : ixD (.lst ds) (.int r) = some d := h
theorem at_in {ds : List D} {r : Int} (h0 : 0 ≤ r) (h1 : r < ds.length) : ∃ d, d ∈ ds ∧ atI ds r = some d := at_mem h0 h1
theorem any_ok : ∀ (k f n : Nat) (m : Mu), k < f → Bg n m → n + cst k ≤ 1000000 → ∃ (d : D) (m' : Mu), fnr_l_any f [.bor m, .val (.int k)] = .ok d [.bor m', .val (.int k)] ∧ Nc k (blk k) d ∧ Bg (n + cst k) m'
  | k, 0, n, m, hk, _, _ => absurd hk (Nat.not_lt_zero _)
  | k, f + 1, n, m, hk, b, hn => by
    have c3 := cst_3 k
    have b10 := blk_10 k
    -- the kind
    obtain ⟨r, m1, e1, r0, r1, b1⟩ : ∃ (r : Int) (m1 : Mu), sSet 2 (eCall 2 fn_l_take [] [(.sl 0), (.ex (eIf (bBl (eOp (op2 gtD) [(.ex (eVar 1)), (.ex (eC (.int 0)))])) (eC (.int 9)) (eC (.int 6))))]) (AE m k .no .no .no) = .nx (AE m1 k (.val (.int r)) .no .no) ∧ 0 ≤ r ∧ (r < 6 ∨ (0 < k ∧ r < 9)) ∧ Bg (n + 1) m1 := by
      have g : bBl (eOp (op2 gtD) [(.ex (eVar 1)), (.ex (eC (.int 0)))]) (AE m k .no .no .no) = .ok (decide ((0 : Int) < (k : Int))) (AE m k .no .no .no) := bb_ok (eop2_ok (f := eVar 1) (g := eC (.int 0)) (ρ1 := AE m k .no .no .no) rfl rfl (by rw [gt_ii]))
      by_cases c : 0 < k
      · rw [decide_eq_true (by omega)] at g
        obtain ⟨r, m1, e, r0, r1, b1⟩ := take_ok (k := 9) b (by omega) (by decide) (by decide)
        exact ⟨r, m1, set_ok (ρ1 := AE m1 k .no .no .no) (slb (i := 0) rfl (eif_t g rfl) e) rfl, r0, .inr ⟨c, r1⟩, b1⟩
      · rw [decide_eq_false (by omega)] at g
        obtain ⟨r, m1, e, r0, r1, b1⟩ := take_ok (k := 6) b (by omega) (by decide) (by decide)
        exact ⟨r, m1, set_ok (ρ1 := AE m1 k .no .no .no) (slb (i := 0) rfl (eif_f g rfl) e) rfl, r0, .inl r1, b1⟩
    have lt : ∀ j : Int, bBl (eOp (op2 ltD) [(.ex (eVar 2)), (.ex (eC (.int j)))]) (AE m1 k (.val (.int r)) .no .no) = .ok (decide (r < j)) (AE m1 k (.val (.int r)) .no .no) := fun j => bb_ok (eop2_ok (f := eVar 2) (g := eC (.int j)) (ρ1 := AE m1 k (.val (.int r)) .no .no) rfl rfl (by rw [lt_ii]))
    have eq : ∀ j : Int, bBl (eOp (op2 eqD) [(.ex (eVar 2)), (.ex (eC (.int j)))]) (AE m1 k (.val (.int r)) .no .no) = .ok (decide (r = j)) (AE m1 k (.val (.int r)) .no .no) := fun j => bb_ok (eop2_ok (f := eVar 2) (g := eC (.int j)) (ρ1 := AE m1 k (.val (.int r)) .no .no) rfl rfl (eq_ii r j))
    have fin : ∀ (d : D) (m' : Mu) (c3 c4 : Cell), sem_l_any (fnr_l_any f) (AE m k .no .no .no) = .rt d (AE m' k (.val (.int r)) c3 c4) → fnr_l_any (f + 1) [.bor m, .val (.int k)] = .ok d [.bor m', .val (.int k)] := fun d m' c3 c4 h => fn_rt h rfl
    by_cases k1 : r < 2
    · have t1 := lt 2
      rw [decide_eq_true k1] at t1
      obtain ⟨x, m2, ex, x0, x1, b2⟩ := take_ok (k := 10000000000000000000000000000000000000000) b1 (by omega) (by decide) (by decide)
      obtain ⟨y, m3, ey, y0, y1, b3⟩ := take_ok (k := 100000000000000000000) b2 (by omega) (by decide) (by decide)
      have g1 := slb (i := 0) (fn := fn_l_take) (ρ := AE m1 k (.val (.int r)) .no .no) (g := eOp (op2 powD) [(.ex (eC (.int 10))), (.ex (eC (.int 40)))]) rfl (eop2_ok (f := eC (.int 10)) (g := eC (.int 40)) rfl rfl pw40) ex
      have g2 := slb (i := 0) (fn := fn_l_take) (ρ := AE m2 k (.val (.int r)) .no .no) (g := eOp (op2 powD) [(.ex (eC (.int 10))), (.ex (eC (.int 20)))]) rfl (eop2_ok (f := eC (.int 10)) (g := eC (.int 20)) rfl rfl pow20) ey
      have g3 := eop2_ok (op := subD) (ρ1 := AE m2 k (.val (.int r)) .no .no) g1 g2 (sub_ii x y)
      have p1 := eop2_ok (op := powD) (f := eC (.int 10)) (g := eC (.int 7)) (ρ := AE m3 k (.val (.int r)) .no .no) rfl rfl pw7
      have p2 := eop2_ok (op := mulD) (f := eVar 2) (ρ := AE m3 k (.val (.int r)) .no .no) (ρ1 := AE m3 k (.val (.int r)) .no .no) rfl p1 (mul_ok (i := r) (j := 10000000) (by omega) (by decide))
      have p3 := eop2_ok (op := addD) (f := eC (.int 1)) (ρ := AE m3 k (.val (.int r)) .no .no) (ρ1 := AE m3 k (.val (.int r)) .no .no) rfl p2 (add_ii 1 (r * 10000000))
      have g4 := eop2_ok (op := divD) (ρ1 := AE m3 k (.val (.int r)) .no .no) g3 p3 (div_ok (i := x - y) (j := 1 + r * 10000000) (by omega) (by omega))
      refine ⟨_, m3, fin _ m3 .no .no ?_, (nc_int (i := (x - y) / (1 + r * 10000000)) ?_).more (Nat.zero_le _) (by omega), b3.more (by omega)⟩
      · unfold sem_l_any
        rw [seq_nx e1]
        exact seq_rt ((if_yesS t1).trans (ret_ok g4))
      · have l1 : (x - y) / (1 + r * 10000000) ≤ 10000000000000000000000000000000000000000 := by
          refine Int.ediv_le_of_le_mul (by omega) ?_
          have : (10000000000000000000000000000000000000000 : Int) * 1 ≤ 10000000000000000000000000000000000000000 * (1 + r * 10000000) := Int.mul_le_mul_of_nonneg_left (by omega) (by decide)
          omega
        have l2 : -100000000000000000000 ≤ (x - y) / (1 + r * 10000000) := by
          refine (Int.le_ediv_iff_mul_le (by omega)).mpr ?_
          have : (-100000000000000000000 : Int) * (1 + r * 10000000) ≤ -100000000000000000000 * 1 := Int.mul_le_mul_of_nonpos_left (by decide) (by omega)
          omega
        omega
    · have t1 := lt 2
      rw [decide_eq_false k1] at t1
      by_cases k2 : r < 5
      · have t2 := lt 5
        rw [decide_eq_true k2] at t2
        obtain ⟨d, hd, ed⟩ := at_in (ds := [.non, .bl true, .bl false]) (r := r - 2) (by omega) (by show r - 2 < 3; omega)
        have fl : eFr (fLst [(.ex (eC .non)), (.ex (eC (.bl true))), (.ex (eC (.bl false)))]) (AE m1 k (.val (.int r)) .no .no) = .ok (.lst [.non, .bl true, .bl false]) (AE m1 k (.val (.int r)) .no .no) := by
          generalize AE m1 k (.val (.int r)) .no .no = ρ
          simp [fnN, fnB, fnBF, sSeq, sRet, sRetF, sRetN, sIf, sSet, sNil, sExpr, sOwn, sPar, sAsg, sMut, sApp, sPut, eVar, eC, eOp, eCall, eAnd, eOr, eNot, eIf, eTup, eFr, fLst, Opd.ev, evs, Arg.dat, dats, vals?, op1, op2, appF, cells, Arg.cell, sls, wb, finC, eChain, bAnd, bOr, bNot, bBl, bTru, truth, lt_ii, le_ii, gt_ii, ge_ii, neg_i, add_ii, sub_ii, max_ii, min_ii, add_ll, add_tt, sizeLine_eq, gTupD, gsCons, gsNil, gSet, notBor_eq, nbO_val, nbO_no, nbO_own, nbO_oc, ix_l, ix_t, Cell.mu?, Cell.lst?, Mu.lst?, len_l, len_t, eIsi, isi_pr, isiD, tyS, List.lookup, gTup_pr, ix_pr0, ix_pr1, at2_0, at2_1, D.fit, D.pure, pures, D.py, pys, PyData.depth, PyData.depthAll, at3_0, at3_1, at3_2, set3_0, set3_1, set3_2, set2_0, set2_1, eq_ii, ne_ii, eq_ss, ne_ss, eq_bb, ne_bb, int_i, abs_i, Cell.put, putAt, len_scr, isN_int, isN_non, oc_mu, oc_noX, nbO_oc, sTry, trS, exS, Sr.out, dropX, noExn, Cell.noX, eXf, eXis, sRaiseB, eMethN, eMethX, noKey, isIns, eConI, eMkKN, eMkKX, eMkX, eMk, eFld, fldD, sFor, fSeq, seqD, eSFld, sFldS, putK, pow6, pow15, pow18, pow20, pow30, pow31, eOpX, eOpN, gSqD, sParF, sParE, eCallK, sIns, eJs, joinE, FPart.ev, fmtD, eJoin, gPl, gNil, gSeq, gYield, gFor, fMethN, fMethX, onlyX, eMethKX, eMethKN, eCallKPX, eCallKPN, fMethFX, fMethKX, fMethKN, fLst]
        have s := eop2_ok (op := subD) (f := eVar 2) (g := eC (.int 2)) (ρ := AE m1 k (.val (.int r)) .no .no) (ρ1 := AE m1 k (.val (.int r)) .no .no) rfl rfl (sub_ii r 2)
        refine ⟨d, m1, fin _ m1 .no .no ?_, ?_, b1.more (by omega)⟩
        · unfold sem_l_any
          rw [seq_nx e1, seq_nx (ifn t1)]
          exact seq_rt ((if_yesS t2).trans (ret_ok (eop2_ok fl s (ix_at ed))))
        · have : d = .non ∨ d = .bl true ∨ d = .bl false := by simpa using hd
          rcases this with rfl | rfl | rfl
          · exact nc_non.more (Nat.zero_le _) (by omega)
          · exact (nc_bl _).more (Nat.zero_le _) (by omega)
          · exact (nc_bl _).more (Nat.zero_le _) (by omega)
      · have t2 := lt 5
        rw [decide_eq_false k2] at t2
        by_cases k3 : r = 5
        · have t3 := eq 5
          rw [decide_eq_true k3] at t3
          obtain ⟨x, m2, ex, x0, x1, b2⟩ := take_ok (k := 5) b1 (by omega) (by decide) (by decide)
          obtain ⟨d, hd, ed⟩ := at_in (ds := wordsT) (r := x) x0 x1
          have fl : eFr (fLst [(.ex (eC (.str ""))), (.ex (eC (.str "high"))), (.ex (eC (.str "0"))), (.ex (eC (.str "none"))), (.ex (eC (.str "a b")))]) (AE m1 k (.val (.int r)) .no .no) = .ok (.lst wordsT) (AE m1 k (.val (.int r)) .no .no) := by
            generalize AE m1 k (.val (.int r)) .no .no = ρ
            simp [fnN, fnB, fnBF, sSeq, sRet, sRetF, sRetN, sIf, sSet, sNil, sExpr, sOwn, sPar, sAsg, sMut, sApp, sPut, eVar, eC, eOp, eCall, eAnd, eOr, eNot, eIf, eTup, eFr, fLst, Opd.ev, evs, Arg.dat, dats, vals?, op1, op2, appF, cells, Arg.cell, sls, wb, finC, eChain, bAnd, bOr, bNot, bBl, bTru, truth, lt_ii, le_ii, gt_ii, ge_ii, neg_i, add_ii, sub_ii, max_ii, min_ii, add_ll, add_tt, sizeLine_eq, gTupD, gsCons, gsNil, gSet, notBor_eq, nbO_val, nbO_no, nbO_own, nbO_oc, ix_l, ix_t, Cell.mu?, Cell.lst?, Mu.lst?, len_l, len_t, eIsi, isi_pr, isiD, tyS, List.lookup, gTup_pr, ix_pr0, ix_pr1, at2_0, at2_1, D.fit, D.pure, pures, D.py, pys, PyData.depth, PyData.depthAll, at3_0, at3_1, at3_2, set3_0, set3_1, set3_2, set2_0, set2_1, eq_ii, ne_ii, eq_ss, ne_ss, eq_bb, ne_bb, int_i, abs_i, Cell.put, putAt, len_scr, isN_int, isN_non, oc_mu, oc_noX, nbO_oc, sTry, trS, exS, Sr.out, dropX, noExn, Cell.noX, eXf, eXis, sRaiseB, eMethN, eMethX, noKey, isIns, eConI, eMkKN, eMkKX, eMkX, eMk, eFld, fldD, sFor, fSeq, seqD, eSFld, sFldS, putK, pow6, pow15, pow18, pow20, pow30, pow31, eOpX, eOpN, gSqD, sParF, sParE, eCallK, sIns, eJs, joinE, FPart.ev, fmtD, eJoin, gPl, gNil, gSeq, gYield, gFor, fMethN, fMethX, onlyX, eMethKX, eMethKN, eCallKPX, eCallKPN, fMethFX, fMethKX, fMethKN, fLst, wordsT]
          have s := slb (i := 0) (fn := fn_l_take) (ρ := AE m1 k (.val (.int r)) .no .no) (g := eC (.int 5)) rfl rfl ex
          refine ⟨d, m2, fin _ m2 .no .no ?_, (nc_word hd).more (Nat.zero_le _) b10, b2.more (by omega)⟩
          unfold sem_l_any
          rw [seq_nx e1, seq_nx (ifn t1), seq_nx (ifn t2)]
          exact seq_rt ((if_yesS t3).trans (ret_ok (eop2_ok fl s (ix_at ed))))
        · have t3 := eq 5
          rw [decide_eq_false k3] at t3
          -- a list or a tuple
          obtain ⟨j, rfl⟩ : ∃ j, k = j + 1 := ⟨k - 1, by omega⟩
          have ce : cst (j + 1) = 2 + 3 * cst j := rfl
          have be : blk (j + 1) = 3 * (blk j + 1) := rfl
          obtain ⟨x, m2, ex, x0, x1, b2⟩ := take_ok (k := 4) b1 (by omega) (by decide) (by decide)
          obtain ⟨N, rfl⟩ : ∃ N : Nat, x = N := ⟨x.toNat, by omega⟩
          have s := slb (i := 0) (fn := fn_l_take) (ρ := AE m1 (j + 1) (.val (.int r)) .no .no) (g := eC (.int 4)) rfl rfl ex
          have it := rng1_ok s (by omega) (by omega)
          obtain ⟨ys, ρ', lc, ⟨m3, rfl, b3⟩, ly, hy⟩ := lcD_ex (vs := [4]) (g := gSet 4) (f := eCall 2 (fnr_l_any f) [] [(.sl 0), (.ex (eOp (op2 subD) [(.ex (eVar 1)), (.ex (eC (.int 1)))]))])
            (fun i ρ => ∃ m, ρ = AE m (j + 1) (.val (.int r)) .no .no ∧ Bg (n + 2 + i * cst j) m) (fun y => Nc j (blk j) y) (rngD 0 N) 0 N (AE m2 (j + 1) (.val (.int r)) .no .no) (by rw [rngD_len]; omega) ⟨m2, rfl, b2.more (by omega)⟩ (by
              rintro d hd i ρ hi ⟨m, rfl, bm⟩
              obtain ⟨q, hq, rfl⟩ := rngD_mem hd
              have mu : (i + 1) * cst j = i * cst j + cst j := Nat.succ_mul _ _
              have ml : i * cst j + cst j ≤ 3 * cst j := by
                rw [← mu]; exact Nat.mul_le_mul_right _ (by omega)
              obtain ⟨y, m', ey, ny, by_⟩ := any_ok j f (n + 2 + i * cst j) m (by omega) bm (by omega)
              have sb := eop2_ok (op := subD) (f := eVar 1) (g := eC (.int 1)) (ρ := AE m (j + 1) (.val (.int r)) .no (.val (.int q))) (ρ1 := AE m (j + 1) (.val (.int r)) .no (.val (.int q))) (z := .int j) rfl rfl (by rw [sub_ii]; congr 2; omega)
              refine ⟨AE m (j + 1) (.val (.int r)) .no (.val (.int q)), AE m' (j + 1) (.val (.int r)) .no (.val (.int q)), y, rfl, slb (i := 0) rfl sb ey, ⟨m', rfl, by_.more (by omega)⟩, ny⟩)
          rw [rngD_len] at ly b3
          rw [Nat.zero_add] at b3
          have lcx : sSet 3 (eFr (fLc (fRng1 (eCall 2 fn_l_take [] [(.sl 0), (.ex (eC (.int 4)))])) [4] (gSet 4) bYes (eCall 2 (fnr_l_any f) [] [(.sl 0), (.ex (eOp (op2 subD) [(.ex (eVar 1)), (.ex (eC (.int 1)))]))]))) (AE m1 (j + 1) (.val (.int r)) .no .no) = .nx (AE m3 (j + 1) (.val (.int r)) (.val (.lst ys)) .no) :=
            set_ok (ρ1 := AE m3 (j + 1) (.val (.int r)) .no .no) (efr_ok (lc_ok it rfl (by rw [rngD_len]; omega) lc)) rfl
          have ml : N * cst j ≤ 3 * cst j := Nat.mul_le_mul_right _ (by omega)
          have bl : ys.length * (blk j + 1) ≤ blk (j + 1) := by
            rw [be, ly]; exact Nat.mul_le_mul_right _ (by omega)
          have t6 : bBl (eOp (op2 eqD) [(.ex (eVar 2)), (.ex (eC (.int 6)))]) (AE m3 (j + 1) (.val (.int r)) (.val (.lst ys)) .no) = .ok (decide (r = 6)) (AE m3 (j + 1) (.val (.int r)) (.val (.lst ys)) .no) := bb_ok (eop2_ok (f := eVar 2) (g := eC (.int 6)) (ρ1 := AE m3 (j + 1) (.val (.int r)) (.val (.lst ys)) .no) rfl rfl (eq_ii r 6))
          by_cases k4 : r = 6
          · rw [decide_eq_true k4] at t6
            refine ⟨.lst ys, m3, fin _ m3 (.val (.lst ys)) .no ?_, (nc_lst hy).more (Nat.le_refl _) bl, b3.more (by omega)⟩
            unfold sem_l_any
            rw [seq_nx e1, seq_nx (ifn t1), seq_nx (ifn t2), seq_nx (ifn t3), seq_nx lcx]
            exact ret_ok (eif_t t6 rfl)
          · rw [decide_eq_false k4] at t6
            refine ⟨.tup ys, m3, fin _ m3 (.val (.lst ys)) .no ?_, (nc_tup hy).more (Nat.le_refl _) bl, b3.more (by omega)⟩
            unfold sem_l_any
            rw [seq_nx e1, seq_nx (ifn t1), seq_nx (ifn t2), seq_nx (ifn t3), seq_nx lcx]
            exact ret_ok (eif_f t6 (eop1_ok (f := eVar 3) rfl rfl))
end Spk
namespace Spk
open PySem PySem.Spec PyProof.Rows L2
/-! ### the errors made -/
section
variable {ρ : PEnv} {x : D} {C f : Str} {T1 T2 : List (Str × Bool)} {j : Int} {fe : EX}
theorem xn_ok (h : fe ρ = .ok x ρ) : eXn C f fe ρ = .ok (.xn C f x) ρ := by
  unfold eXn; rw [h]; rfl
theorem xf_ok (h : fe ρ = .ok (.xn C f x) ρ) : eXnF C f fe ρ = .ok x ρ := by
  unfold eXnF
  rw [h]
  simp only [Rs.bind_ok]
  rw [if_pos ⟨trivial, trivial⟩]
theorem is2_ok (h : fe ρ = .ok (.xn C f x) ρ) (h1 : T1.lookup C = some false) (h2 : T2.lookup C = some false) : eIsX2 T1 T2 fe ρ = .ok (.bl false) ρ := by
  unfold eIsX2
  rw [h]
  simp only [Rs.bind_ok, isX, h1, h2]
  rfl
theorem is1_ok {b : Bool} (h : fe ρ = .ok (.xn C f x) ρ) (h1 : T1.lookup C = some b) : eIsX T1 fe ρ = .ok (.bl b) ρ := by
  unfold eIsX
  rw [h]
  simp only [Rs.bind_ok, isX, h1]
  rfl
theorem cl1x {fn : List Cell → Rs D} {z : D} (h0 : fe ρ = .ok x ρ) (h : fn [.val x] = .ok z [.val x]) : eCall 1 fn [] [.ex fe] ρ = .ok z ρ := by
  simp [fnN, fnB, fnBF, sSeq, sRet, sRetF, sRetN, sIf, sSet, sNil, sExpr, sOwn, sPar, sAsg, sMut, sApp, sPut, eVar, eC, eOp, eCall, eAnd, eOr, eNot, eIf, eTup, eFr, fLst, Opd.ev, evs, Arg.dat, dats, vals?, op1, op2, appF, cells, Arg.cell, sls, wb, finC, eChain, bAnd, bOr, bNot, bBl, bTru, truth, lt_ii, le_ii, gt_ii, ge_ii, neg_i, add_ii, sub_ii, max_ii, min_ii, add_ll, add_tt, sizeLine_eq, gTupD, gsCons, gsNil, gSet, notBor_eq, nbO_val, nbO_no, nbO_own, nbO_oc, ix_l, ix_t, Cell.mu?, Cell.lst?, Mu.lst?, len_l, len_t, eIsi, isi_pr, isiD, tyS, List.lookup, gTup_pr, ix_pr0, ix_pr1, at2_0, at2_1, D.fit, D.pure, pures, D.py, pys, PyData.depth, PyData.depthAll, at3_0, at3_1, at3_2, set3_0, set3_1, set3_2, set2_0, set2_1, eq_ii, ne_ii, eq_ss, ne_ss, eq_bb, ne_bb, int_i, abs_i, Cell.put, putAt, len_scr, isN_int, isN_non, oc_mu, oc_noX, nbO_oc, sTry, trS, exS, Sr.out, dropX, noExn, Cell.noX, eXf, eXis, sRaiseB, eMethN, eMethX, noKey, isIns, eConI, eMkKN, eMkKX, eMkX, eMk, eFld, fldD, sFor, fSeq, seqD, eSFld, sFldS, putK, pow6, pow15, pow18, pow20, pow30, pow31, eOpX, eOpN, gSqD, sParF, sParE, eCallK, sIns, eJs, joinE, FPart.ev, fmtD, eJoin, gPl, gNil, gSeq, gYield, gFor, fMethN, fMethX, onlyX, eMethKX, eMethKN, eCallKPX, eCallKPN, fMethFX, fMethKX, fMethKN, h0, h]
theorem tup3 {f g k : EX} {a b c : D} (h1 : f ρ = .ok a ρ) (h2 : g ρ = .ok b ρ) (h3 : k ρ = .ok c ρ) : eTup [.ex f, .ex g, .ex k] ρ = .ok (.tup [a, b, c]) ρ := by
  simp [fnN, fnB, fnBF, sSeq, sRet, sRetF, sRetN, sIf, sSet, sNil, sExpr, sOwn, sPar, sAsg, sMut, sApp, sPut, eVar, eC, eOp, eCall, eAnd, eOr, eNot, eIf, eTup, eFr, fLst, Opd.ev, evs, Arg.dat, dats, vals?, op1, op2, appF, cells, Arg.cell, sls, wb, finC, eChain, bAnd, bOr, bNot, bBl, bTru, truth, lt_ii, le_ii, gt_ii, ge_ii, neg_i, add_ii, sub_ii, max_ii, min_ii, add_ll, add_tt, sizeLine_eq, gTupD, gsCons, gsNil, gSet, notBor_eq, nbO_val, nbO_no, nbO_own, nbO_oc, ix_l, ix_t, Cell.mu?, Cell.lst?, Mu.lst?, len_l, len_t, eIsi, isi_pr, isiD, tyS, List.lookup, gTup_pr, ix_pr0, ix_pr1, at2_0, at2_1, D.fit, D.pure, pures, D.py, pys, PyData.depth, PyData.depthAll, at3_0, at3_1, at3_2, set3_0, set3_1, set3_2, set2_0, set2_1, eq_ii, ne_ii, eq_ss, ne_ss, eq_bb, ne_bb, int_i, abs_i, Cell.put, putAt, len_scr, isN_int, isN_non, oc_mu, oc_noX, nbO_oc, sTry, trS, exS, Sr.out, dropX, noExn, Cell.noX, eXf, eXis, sRaiseB, eMethN, eMethX, noKey, isIns, eConI, eMkKN, eMkKX, eMkX, eMk, eFld, fldD, sFor, fSeq, seqD, eSFld, sFldS, putK, pow6, pow15, pow18, pow20, pow30, pow31, eOpX, eOpN, gSqD, sParF, sParE, eCallK, sIns, eJs, joinE, FPart.ev, fmtD, eJoin, gPl, gNil, gSeq, gYield, gFor, fMethN, fMethX, onlyX, eMethKX, eMethKN, eCallKPX, eCallKPN, fMethFX, fMethKX, fMethKN, h1, h2, h3]
theorem fl1 {f : EX} {a : D} (h0 : f ρ = .ok a ρ) : fLst [.ex f] ρ = .ok [a] ρ := by
  simp [fnN, fnB, fnBF, sSeq, sRet, sRetF, sRetN, sIf, sSet, sNil, sExpr, sOwn, sPar, sAsg, sMut, sApp, sPut, eVar, eC, eOp, eCall, eAnd, eOr, eNot, eIf, eTup, eFr, fLst, Opd.ev, evs, Arg.dat, dats, vals?, op1, op2, appF, cells, Arg.cell, sls, wb, finC, eChain, bAnd, bOr, bNot, bBl, bTru, truth, lt_ii, le_ii, gt_ii, ge_ii, neg_i, add_ii, sub_ii, max_ii, min_ii, add_ll, add_tt, sizeLine_eq, gTupD, gsCons, gsNil, gSet, notBor_eq, nbO_val, nbO_no, nbO_own, nbO_oc, ix_l, ix_t, Cell.mu?, Cell.lst?, Mu.lst?, len_l, len_t, eIsi, isi_pr, isiD, tyS, List.lookup, gTup_pr, ix_pr0, ix_pr1, at2_0, at2_1, D.fit, D.pure, pures, D.py, pys, PyData.depth, PyData.depthAll, at3_0, at3_1, at3_2, set3_0, set3_1, set3_2, set2_0, set2_1, eq_ii, ne_ii, eq_ss, ne_ss, eq_bb, ne_bb, int_i, abs_i, Cell.put, putAt, len_scr, isN_int, isN_non, oc_mu, oc_noX, nbO_oc, sTry, trS, exS, Sr.out, dropX, noExn, Cell.noX, eXf, eXis, sRaiseB, eMethN, eMethX, noKey, isIns, eConI, eMkKN, eMkKX, eMkX, eMk, eFld, fldD, sFor, fSeq, seqD, eSFld, sFldS, putK, pow6, pow15, pow18, pow20, pow30, pow31, eOpX, eOpN, gSqD, sParF, sParE, eCallK, sIns, eJs, joinE, FPart.ev, fmtD, eJoin, gPl, gNil, gSeq, gYield, gFor, fMethN, fMethX, onlyX, eMethKX, eMethKN, eCallKPX, eCallKPN, fMethFX, fMethKX, fMethKN, fLst, h0]
def RW (x : D) (j : Int) : D := .tup [x, .lst [.int j], .bl false]
theorem fl4 {f g h k : EX} {a b c d : D} (h0 : f ρ = .ok a ρ) (h1 : g ρ = .ok b ρ) (h2 : h ρ = .ok c ρ) (h3 : k ρ = .ok d ρ) : fLst [.ex f, .ex g, .ex h, .ex k] ρ = .ok [a, b, c, d] ρ := by
  simp [fnN, fnB, fnBF, sSeq, sRet, sRetF, sRetN, sIf, sSet, sNil, sExpr, sOwn, sPar, sAsg, sMut, sApp, sPut, eVar, eC, eOp, eCall, eAnd, eOr, eNot, eIf, eTup, eFr, fLst, Opd.ev, evs, Arg.dat, dats, vals?, op1, op2, appF, cells, Arg.cell, sls, wb, finC, eChain, bAnd, bOr, bNot, bBl, bTru, truth, lt_ii, le_ii, gt_ii, ge_ii, neg_i, add_ii, sub_ii, max_ii, min_ii, add_ll, add_tt, sizeLine_eq, gTupD, gsCons, gsNil, gSet, notBor_eq, nbO_val, nbO_no, nbO_own, nbO_oc, ix_l, ix_t, Cell.mu?, Cell.lst?, Mu.lst?, len_l, len_t, eIsi, isi_pr, isiD, tyS, List.lookup, gTup_pr, ix_pr0, ix_pr1, at2_0, at2_1, D.fit, D.pure, pures, D.py, pys, PyData.depth, PyData.depthAll, at3_0, at3_1, at3_2, set3_0, set3_1, set3_2, set2_0, set2_1, eq_ii, ne_ii, eq_ss, ne_ss, eq_bb, ne_bb, int_i, abs_i, Cell.put, putAt, len_scr, isN_int, isN_non, oc_mu, oc_noX, nbO_oc, sTry, trS, exS, Sr.out, dropX, noExn, Cell.noX, eXf, eXis, sRaiseB, eMethN, eMethX, noKey, isIns, eConI, eMkKN, eMkKX, eMkX, eMk, eFld, fldD, sFor, fSeq, seqD, eSFld, sFldS, putK, pow6, pow15, pow18, pow20, pow30, pow31, eOpX, eOpN, gSqD, sParF, sParE, eCallK, sIns, eJs, joinE, FPart.ev, fmtD, eJoin, gPl, gNil, gSeq, gYield, gFor, fMethN, fMethX, onlyX, eMethKX, eMethKN, eCallKPX, eCallKPN, fMethFX, fMethKX, fMethKN, fLst, h0, h1, h2, h3]
end
theorem own_set {i : Nat} {f : PEnv → Rs (List D)} {ρ ρ1 : PEnv} {ds : List D} (h : f ρ = .ok ds ρ1) (n : nbO ρ1[i]? = true) : sOwn i f ρ = .nx (ρ1.set i (.own (.lst ds))) := by
  unfold sOwn
  rw [h]
  show (if _ then _ else _) = _
  rw [if_pos (by rw [notBor_eq]; exact n)]
theorem sl_at {ρ : PEnv} {i : Nat} {f : SX} {xs : List D} (hc : ρ[i]? = some (.own (.lst xs))) : sMut i f ρ = f ρ := by
  unfold sMut
  rw [if_pos (by rw [hc]; rfl)]
theorem app_set {i : Nat} {f : EX} {ρ ρ1 : PEnv} {d : D} {xs : List D} (h0 : ρ[i]? = some (.own (.lst xs))) (h : f ρ = .ok d ρ1) (hc : ρ1[i]? = some (.own (.lst xs))) (hl : xs.length ≤ 1000) : sMut i (sApp i f) ρ = .nx (ρ1.set i (.own (.lst (xs ++ [d])))) := by
  rw [sl_at h0]
  unfold sApp putAt appG
  rw [h]
  simp only [Sr.of, hc, Option.bind_some, Cell.lst?, Cell.mu?, Mu.lst?, sizeLine_eq, if_pos (show xs.length < 16777216 by omega), Option.map_some, Cell.put]
theorem kd_ok {C f : Str} {x : D} {b1 b2 b3 b4 : Bool} {ds : List D} (h1 : tbxp_ValueError.lookup C = some b1) (h2 : tbxp_LookupError.lookup C = some b2) (h3 : tbxp_OverflowError.lookup C = some b3) (h4 : tbxp_RuntimeError.lookup C = some b4)
    (h : ∀ e : Cell, t_l_kinds_2 [e, .val (.lst [.bl b1, .bl b2, .bl b3, .bl b4]), .no] = .rt (.lst ds) [e, .val (.lst [.bl b1, .bl b2, .bl b3, .bl b4]), .no]) : fn_l_kinds [.val (.xn C f x)] = .ok (.lst ds) [.val (.xn C f x)] := by
  have v0 : eVar 0 [.val (.xn C f x), .no, .no] = .ok (.xn C f x) [.val (.xn C f x), .no, .no] := rfl
  have s1 : t_l_kinds_1 [.val (.xn C f x), .no, .no] = .nx [.val (.xn C f x), .val (.lst [.bl b1, .bl b2, .bl b3, .bl b4]), .no] := by
    unfold t_l_kinds_1
    exact set_ok (efr_ok (fl4 (is1_ok v0 h1) (is1_ok v0 h2) (is1_ok v0 h3) (is1_ok v0 h4))) rfl
  unfold fn_l_kinds
  refine fn_rt (ρ := [.val (.xn C f x), .val (.lst [.bl b1, .bl b2, .bl b3, .bl b4]), .no]) ?_ rfl
  show sem_l_kinds [.val (.xn C f x), .no, .no] = _
  unfold sem_l_kinds
  rw [seq_nx s1]
  exact h _
theorem kk0 : ∀ e : Cell, t_l_kinds_2 [e, .val (.lst [.bl true, .bl false, .bl false, .bl false]), .no] = .rt (.lst [.int 0]) [e, .val (.lst [.bl true, .bl false, .bl false, .bl false]), .no] := fun e => by
  rfl
theorem kk1 : ∀ e : Cell, t_l_kinds_2 [e, .val (.lst [.bl false, .bl true, .bl false, .bl false]), .no] = .rt (.lst [.int 1]) [e, .val (.lst [.bl false, .bl true, .bl false, .bl false]), .no] := fun e => by
  rfl
theorem kk2 : ∀ e : Cell, t_l_kinds_2 [e, .val (.lst [.bl false, .bl false, .bl true, .bl false]), .no] = .rt (.lst [.int 2]) [e, .val (.lst [.bl false, .bl false, .bl true, .bl false]), .no] := fun e => by
  rfl
theorem kk3 : ∀ e : Cell, t_l_kinds_2 [e, .val (.lst [.bl false, .bl false, .bl false, .bl true]), .no] = .rt (.lst [.int 3]) [e, .val (.lst [.bl false, .bl false, .bl false, .bl true]), .no] := fun e => by
  rfl
theorem l_values_s1 (x : D) : t_l_values_1 [.val x, .no] = .nx [.val x, .own (.lst [RW x 0])] := by
  have v : eXn "BadEdge" "edge" (eVar 0) [.val x, .no] = .ok (.xn "BadEdge" "edge" x) [.val x, .no] := xn_ok rfl
  have r := tup3 (xf_ok v) (cl1x v (kd_ok (b1 := true) (b2 := false) (b3 := false) (b4 := false) (C := "BadEdge") (f := "edge") (x := x) (by decide +kernel) (by decide +kernel) (by decide +kernel) (by decide +kernel) kk0)) (is2_ok (T1 := tbxp_BadSpan) (T2 := tbxp_BadItem) v (by decide +kernel) (by decide +kernel))
  unfold t_l_values_1
  exact own_set (i := 1) (fl1 r) rfl
theorem l_values_s2 (x : D) : t_l_values_2 [.val x, .own (.lst [RW x 0])] = .nx [.val x, .own (.lst [RW x 0, RW x 0])] := by
  have v : eXn "BadSpan" "span" (eVar 0) [.val x, .own (.lst [RW x 0])] = .ok (.xn "BadSpan" "span" x) [.val x, .own (.lst [RW x 0])] := xn_ok rfl
  have r := tup3 (xf_ok v) (cl1x v (kd_ok (b1 := true) (b2 := false) (b3 := false) (b4 := false) (C := "BadSpan") (f := "span") (x := x) (by decide +kernel) (by decide +kernel) (by decide +kernel) (by decide +kernel) kk0)) (is2_ok (T1 := tbxp_BadEdge) (T2 := tbxp_BadWindow) v (by decide +kernel) (by decide +kernel))
  unfold t_l_values_2
  exact app_set (i := 1) rfl r rfl (by simp)
theorem l_values_s3 (x : D) : t_l_values_3 [.val x, .own (.lst [RW x 0, RW x 0])] = .nx [.val x, .own (.lst [RW x 0, RW x 0, RW x 0])] := by
  have v : eXn "BadWindow" "window" (eVar 0) [.val x, .own (.lst [RW x 0, RW x 0])] = .ok (.xn "BadWindow" "window" x) [.val x, .own (.lst [RW x 0, RW x 0])] := xn_ok rfl
  have r := tup3 (xf_ok v) (cl1x v (kd_ok (b1 := true) (b2 := false) (b3 := false) (b4 := false) (C := "BadWindow") (f := "window") (x := x) (by decide +kernel) (by decide +kernel) (by decide +kernel) (by decide +kernel) kk0)) (is2_ok (T1 := tbxp_BadSpan) (T2 := tbxp_BadEdge) v (by decide +kernel) (by decide +kernel))
  unfold t_l_values_3
  exact app_set (i := 1) rfl r rfl (by simp)
theorem l_values_s4 (x : D) : t_l_values_4 [.val x, .own (.lst [RW x 0, RW x 0, RW x 0])] = .nx [.val x, .own (.lst [RW x 0, RW x 0, RW x 0, RW x 0])] := by
  have v : eXn "BadMoment" "moment" (eVar 0) [.val x, .own (.lst [RW x 0, RW x 0, RW x 0])] = .ok (.xn "BadMoment" "moment" x) [.val x, .own (.lst [RW x 0, RW x 0, RW x 0])] := xn_ok rfl
  have r := tup3 (xf_ok v) (cl1x v (kd_ok (b1 := true) (b2 := false) (b3 := false) (b4 := false) (C := "BadMoment") (f := "moment") (x := x) (by decide +kernel) (by decide +kernel) (by decide +kernel) (by decide +kernel) kk0)) (is2_ok (T1 := tbxp_BadEdge) (T2 := tbxp_BadItem) v (by decide +kernel) (by decide +kernel))
  unfold t_l_values_4
  exact app_set (i := 1) rfl r rfl (by simp)
theorem l_values_s5 (x : D) : t_l_values_5 [.val x, .own (.lst [RW x 0, RW x 0, RW x 0, RW x 0])] = .nx [.val x, .own (.lst [RW x 0, RW x 0, RW x 0, RW x 0, RW x 0])] := by
  have v : eXn "BadEnds" "ends" (eVar 0) [.val x, .own (.lst [RW x 0, RW x 0, RW x 0, RW x 0])] = .ok (.xn "BadEnds" "ends" x) [.val x, .own (.lst [RW x 0, RW x 0, RW x 0, RW x 0])] := xn_ok rfl
  have r := tup3 (xf_ok v) (cl1x v (kd_ok (b1 := true) (b2 := false) (b3 := false) (b4 := false) (C := "BadEnds") (f := "ends") (x := x) (by decide +kernel) (by decide +kernel) (by decide +kernel) (by decide +kernel) kk0)) (is2_ok (T1 := tbxp_BadWish) (T2 := tbxp_BadOption) v (by decide +kernel) (by decide +kernel))
  unfold t_l_values_5
  exact app_set (i := 1) rfl r rfl (by simp)
theorem l_values_s6 (x : D) : t_l_values_6 [.val x, .own (.lst [RW x 0, RW x 0, RW x 0, RW x 0, RW x 0])] = .nx [.val x, .own (.lst [RW x 0, RW x 0, RW x 0, RW x 0, RW x 0, RW x 0])] := by
  have v : eXn "BadItem" "index" (eVar 0) [.val x, .own (.lst [RW x 0, RW x 0, RW x 0, RW x 0, RW x 0])] = .ok (.xn "BadItem" "index" x) [.val x, .own (.lst [RW x 0, RW x 0, RW x 0, RW x 0, RW x 0])] := xn_ok rfl
  have r := tup3 (xf_ok v) (cl1x v (kd_ok (b1 := true) (b2 := false) (b3 := false) (b4 := false) (C := "BadItem") (f := "index") (x := x) (by decide +kernel) (by decide +kernel) (by decide +kernel) (by decide +kernel) kk0)) (is2_ok (T1 := tbxp_BadSpan) (T2 := tbxp_BadEdge) v (by decide +kernel) (by decide +kernel))
  unfold t_l_values_6
  exact app_set (i := 1) rfl r rfl (by simp)
theorem l_values_s7 (x : D) : t_l_values_7 [.val x, .own (.lst [RW x 0, RW x 0, RW x 0, RW x 0, RW x 0, RW x 0])] = .nx [.val x, .own (.lst [RW x 0, RW x 0, RW x 0, RW x 0, RW x 0, RW x 0, RW x 0])] := by
  have v : eXn "BadOrder" "order" (eVar 0) [.val x, .own (.lst [RW x 0, RW x 0, RW x 0, RW x 0, RW x 0, RW x 0])] = .ok (.xn "BadOrder" "order" x) [.val x, .own (.lst [RW x 0, RW x 0, RW x 0, RW x 0, RW x 0, RW x 0])] := xn_ok rfl
  have r := tup3 (xf_ok v) (cl1x v (kd_ok (b1 := true) (b2 := false) (b3 := false) (b4 := false) (C := "BadOrder") (f := "order") (x := x) (by decide +kernel) (by decide +kernel) (by decide +kernel) (by decide +kernel) kk0)) (is2_ok (T1 := tbxp_BadWish) (T2 := tbxp_BadUse) v (by decide +kernel) (by decide +kernel))
  unfold t_l_values_7
  exact app_set (i := 1) rfl r rfl (by simp)
theorem l_values_s8 (x : D) : t_l_values_8 [.val x, .own (.lst [RW x 0, RW x 0, RW x 0, RW x 0, RW x 0, RW x 0, RW x 0])] = .nx [.val x, .own (.lst [RW x 0, RW x 0, RW x 0, RW x 0, RW x 0, RW x 0, RW x 0, RW x 0])] := by
  have v : eXn "BadTest" "test" (eVar 0) [.val x, .own (.lst [RW x 0, RW x 0, RW x 0, RW x 0, RW x 0, RW x 0, RW x 0])] = .ok (.xn "BadTest" "test" x) [.val x, .own (.lst [RW x 0, RW x 0, RW x 0, RW x 0, RW x 0, RW x 0, RW x 0])] := xn_ok rfl
  have r := tup3 (xf_ok v) (cl1x v (kd_ok (b1 := true) (b2 := false) (b3 := false) (b4 := false) (C := "BadTest") (f := "test") (x := x) (by decide +kernel) (by decide +kernel) (by decide +kernel) (by decide +kernel) kk0)) (is2_ok (T1 := tbxp_BadRule) (T2 := tbxp_BadDeed) v (by decide +kernel) (by decide +kernel))
  unfold t_l_values_8
  exact app_set (i := 1) rfl r rfl (by simp)
theorem l_values_s9 (x : D) : t_l_values_9 [.val x, .own (.lst [RW x 0, RW x 0, RW x 0, RW x 0, RW x 0, RW x 0, RW x 0, RW x 0])] = .nx [.val x, .own (.lst [RW x 0, RW x 0, RW x 0, RW x 0, RW x 0, RW x 0, RW x 0, RW x 0, RW x 0])] := by
  have v : eXn "BadDeed" "deed" (eVar 0) [.val x, .own (.lst [RW x 0, RW x 0, RW x 0, RW x 0, RW x 0, RW x 0, RW x 0, RW x 0])] = .ok (.xn "BadDeed" "deed" x) [.val x, .own (.lst [RW x 0, RW x 0, RW x 0, RW x 0, RW x 0, RW x 0, RW x 0, RW x 0])] := xn_ok rfl
  have r := tup3 (xf_ok v) (cl1x v (kd_ok (b1 := true) (b2 := false) (b3 := false) (b4 := false) (C := "BadDeed") (f := "deed") (x := x) (by decide +kernel) (by decide +kernel) (by decide +kernel) (by decide +kernel) kk0)) (is2_ok (T1 := tbxp_BadRule) (T2 := tbxp_BadTest) v (by decide +kernel) (by decide +kernel))
  unfold t_l_values_9
  exact app_set (i := 1) rfl r rfl (by simp)
theorem l_values_s10 (x : D) : t_l_values_10 [.val x, .own (.lst [RW x 0, RW x 0, RW x 0, RW x 0, RW x 0, RW x 0, RW x 0, RW x 0, RW x 0])] = .nx [.val x, .own (.lst [RW x 0, RW x 0, RW x 0, RW x 0, RW x 0, RW x 0, RW x 0, RW x 0, RW x 0, RW x 0])] := by
  have v : eXn "BadRule" "rule" (eVar 0) [.val x, .own (.lst [RW x 0, RW x 0, RW x 0, RW x 0, RW x 0, RW x 0, RW x 0, RW x 0, RW x 0])] = .ok (.xn "BadRule" "rule" x) [.val x, .own (.lst [RW x 0, RW x 0, RW x 0, RW x 0, RW x 0, RW x 0, RW x 0, RW x 0, RW x 0])] := xn_ok rfl
  have r := tup3 (xf_ok v) (cl1x v (kd_ok (b1 := true) (b2 := false) (b3 := false) (b4 := false) (C := "BadRule") (f := "rule") (x := x) (by decide +kernel) (by decide +kernel) (by decide +kernel) (by decide +kernel) kk0)) (is2_ok (T1 := tbxp_BadTest) (T2 := tbxp_BadUse) v (by decide +kernel) (by decide +kernel))
  unfold t_l_values_10
  exact app_set (i := 1) rfl r rfl (by simp)
theorem l_values_s11 (x : D) : t_l_values_11 [.val x, .own (.lst [RW x 0, RW x 0, RW x 0, RW x 0, RW x 0, RW x 0, RW x 0, RW x 0, RW x 0, RW x 0])] = .nx [.val x, .own (.lst [RW x 0, RW x 0, RW x 0, RW x 0, RW x 0, RW x 0, RW x 0, RW x 0, RW x 0, RW x 0, RW x 0])] := by
  have v : eXn "BadUse" "place" (eVar 0) [.val x, .own (.lst [RW x 0, RW x 0, RW x 0, RW x 0, RW x 0, RW x 0, RW x 0, RW x 0, RW x 0, RW x 0])] = .ok (.xn "BadUse" "place" x) [.val x, .own (.lst [RW x 0, RW x 0, RW x 0, RW x 0, RW x 0, RW x 0, RW x 0, RW x 0, RW x 0, RW x 0])] := xn_ok rfl
  have r := tup3 (xf_ok v) (cl1x v (kd_ok (b1 := true) (b2 := false) (b3 := false) (b4 := false) (C := "BadUse") (f := "place") (x := x) (by decide +kernel) (by decide +kernel) (by decide +kernel) (by decide +kernel) kk0)) (is2_ok (T1 := tbxp_BadRule) (T2 := tbxp_BadOrder) v (by decide +kernel) (by decide +kernel))
  unfold t_l_values_11
  exact app_set (i := 1) rfl r rfl (by simp)
theorem l_values_s12 (x : D) : t_l_values_12 [.val x, .own (.lst [RW x 0, RW x 0, RW x 0, RW x 0, RW x 0, RW x 0, RW x 0, RW x 0, RW x 0, RW x 0, RW x 0])] = .nx [.val x, .own (.lst [RW x 0, RW x 0, RW x 0, RW x 0, RW x 0, RW x 0, RW x 0, RW x 0, RW x 0, RW x 0, RW x 0, RW x 0])] := by
  have v : eXn "BadWish" "word" (eVar 0) [.val x, .own (.lst [RW x 0, RW x 0, RW x 0, RW x 0, RW x 0, RW x 0, RW x 0, RW x 0, RW x 0, RW x 0, RW x 0])] = .ok (.xn "BadWish" "word" x) [.val x, .own (.lst [RW x 0, RW x 0, RW x 0, RW x 0, RW x 0, RW x 0, RW x 0, RW x 0, RW x 0, RW x 0, RW x 0])] := xn_ok rfl
  have r := tup3 (xf_ok v) (cl1x v (kd_ok (b1 := true) (b2 := false) (b3 := false) (b4 := false) (C := "BadWish") (f := "word") (x := x) (by decide +kernel) (by decide +kernel) (by decide +kernel) (by decide +kernel) kk0)) (is2_ok (T1 := tbxp_BadEnds) (T2 := tbxp_BadLevel) v (by decide +kernel) (by decide +kernel))
  unfold t_l_values_12
  exact app_set (i := 1) rfl r rfl (by simp)
theorem l_values_s13 (x : D) : t_l_values_13 [.val x, .own (.lst [RW x 0, RW x 0, RW x 0, RW x 0, RW x 0, RW x 0, RW x 0, RW x 0, RW x 0, RW x 0, RW x 0, RW x 0])] = .nx [.val x, .own (.lst [RW x 0, RW x 0, RW x 0, RW x 0, RW x 0, RW x 0, RW x 0, RW x 0, RW x 0, RW x 0, RW x 0, RW x 0, RW x 0])] := by
  have v : eXn "BadOption" "option" (eVar 0) [.val x, .own (.lst [RW x 0, RW x 0, RW x 0, RW x 0, RW x 0, RW x 0, RW x 0, RW x 0, RW x 0, RW x 0, RW x 0, RW x 0])] = .ok (.xn "BadOption" "option" x) [.val x, .own (.lst [RW x 0, RW x 0, RW x 0, RW x 0, RW x 0, RW x 0, RW x 0, RW x 0, RW x 0, RW x 0, RW x 0, RW x 0])] := xn_ok rfl
  have r := tup3 (xf_ok v) (cl1x v (kd_ok (b1 := true) (b2 := false) (b3 := false) (b4 := false) (C := "BadOption") (f := "option") (x := x) (by decide +kernel) (by decide +kernel) (by decide +kernel) (by decide +kernel) kk0)) (is2_ok (T1 := tbxp_BadSweep) (T2 := tbxp_BadWish) v (by decide +kernel) (by decide +kernel))
  unfold t_l_values_13
  exact app_set (i := 1) rfl r rfl (by simp)
theorem l_values_s14 (x : D) : t_l_values_14 [.val x, .own (.lst [RW x 0, RW x 0, RW x 0, RW x 0, RW x 0, RW x 0, RW x 0, RW x 0, RW x 0, RW x 0, RW x 0, RW x 0, RW x 0])] = .nx [.val x, .own (.lst [RW x 0, RW x 0, RW x 0, RW x 0, RW x 0, RW x 0, RW x 0, RW x 0, RW x 0, RW x 0, RW x 0, RW x 0, RW x 0, RW x 0])] := by
  have v : eXn "BadSweep" "word" (eVar 0) [.val x, .own (.lst [RW x 0, RW x 0, RW x 0, RW x 0, RW x 0, RW x 0, RW x 0, RW x 0, RW x 0, RW x 0, RW x 0, RW x 0, RW x 0])] = .ok (.xn "BadSweep" "word" x) [.val x, .own (.lst [RW x 0, RW x 0, RW x 0, RW x 0, RW x 0, RW x 0, RW x 0, RW x 0, RW x 0, RW x 0, RW x 0, RW x 0, RW x 0])] := xn_ok rfl
  have r := tup3 (xf_ok v) (cl1x v (kd_ok (b1 := true) (b2 := false) (b3 := false) (b4 := false) (C := "BadSweep") (f := "word") (x := x) (by decide +kernel) (by decide +kernel) (by decide +kernel) (by decide +kernel) kk0)) (is2_ok (T1 := tbxp_BadOption) (T2 := tbxp_BadWish) v (by decide +kernel) (by decide +kernel))
  unfold t_l_values_14
  exact app_set (i := 1) rfl r rfl (by simp)
theorem l_values_s15 (x : D) : t_l_values_15 [.val x, .own (.lst [RW x 0, RW x 0, RW x 0, RW x 0, RW x 0, RW x 0, RW x 0, RW x 0, RW x 0, RW x 0, RW x 0, RW x 0, RW x 0, RW x 0])] = .nx [.val x, .own (.lst [RW x 0, RW x 0, RW x 0, RW x 0, RW x 0, RW x 0, RW x 0, RW x 0, RW x 0, RW x 0, RW x 0, RW x 0, RW x 0, RW x 0, RW x 0])] := by
  have v : eXn "BadLevel" "level" (eVar 0) [.val x, .own (.lst [RW x 0, RW x 0, RW x 0, RW x 0, RW x 0, RW x 0, RW x 0, RW x 0, RW x 0, RW x 0, RW x 0, RW x 0, RW x 0, RW x 0])] = .ok (.xn "BadLevel" "level" x) [.val x, .own (.lst [RW x 0, RW x 0, RW x 0, RW x 0, RW x 0, RW x 0, RW x 0, RW x 0, RW x 0, RW x 0, RW x 0, RW x 0, RW x 0, RW x 0])] := xn_ok rfl
  have r := tup3 (xf_ok v) (cl1x v (kd_ok (b1 := true) (b2 := false) (b3 := false) (b4 := false) (C := "BadLevel") (f := "level") (x := x) (by decide +kernel) (by decide +kernel) (by decide +kernel) (by decide +kernel) kk0)) (is2_ok (T1 := tbxp_BadSweep) (T2 := tbxp_BadWish) v (by decide +kernel) (by decide +kernel))
  unfold t_l_values_15
  exact app_set (i := 1) rfl r rfl (by simp)
theorem l_values_s16 (x : D) : t_l_values_16 [.val x, .own (.lst [RW x 0, RW x 0, RW x 0, RW x 0, RW x 0, RW x 0, RW x 0, RW x 0, RW x 0, RW x 0, RW x 0, RW x 0, RW x 0, RW x 0, RW x 0])] = .nx [.val x, .own (.lst [RW x 0, RW x 0, RW x 0, RW x 0, RW x 0, RW x 0, RW x 0, RW x 0, RW x 0, RW x 0, RW x 0, RW x 0, RW x 0, RW x 0, RW x 0, RW x 0])] := by
  have v : eXn "BadDay" "day" (eVar 0) [.val x, .own (.lst [RW x 0, RW x 0, RW x 0, RW x 0, RW x 0, RW x 0, RW x 0, RW x 0, RW x 0, RW x 0, RW x 0, RW x 0, RW x 0, RW x 0, RW x 0])] = .ok (.xn "BadDay" "day" x) [.val x, .own (.lst [RW x 0, RW x 0, RW x 0, RW x 0, RW x 0, RW x 0, RW x 0, RW x 0, RW x 0, RW x 0, RW x 0, RW x 0, RW x 0, RW x 0, RW x 0])] := xn_ok rfl
  have r := tup3 (xf_ok v) (cl1x v (kd_ok (b1 := true) (b2 := false) (b3 := false) (b4 := false) (C := "BadDay") (f := "day") (x := x) (by decide +kernel) (by decide +kernel) (by decide +kernel) (by decide +kernel) kk0)) (is2_ok (T1 := tbxp_BadColumns) (T2 := tbxp_BadMoment) v (by decide +kernel) (by decide +kernel))
  unfold t_l_values_16
  exact app_set (i := 1) rfl r rfl (by simp)
theorem l_values_s17 (x : D) : t_l_values_17 [.val x, .own (.lst [RW x 0, RW x 0, RW x 0, RW x 0, RW x 0, RW x 0, RW x 0, RW x 0, RW x 0, RW x 0, RW x 0, RW x 0, RW x 0, RW x 0, RW x 0, RW x 0])] = .nx [.val x, .own (.lst [RW x 0, RW x 0, RW x 0, RW x 0, RW x 0, RW x 0, RW x 0, RW x 0, RW x 0, RW x 0, RW x 0, RW x 0, RW x 0, RW x 0, RW x 0, RW x 0, RW x 0])] := by
  have v : eXn "BadColumns" "columns" (eVar 0) [.val x, .own (.lst [RW x 0, RW x 0, RW x 0, RW x 0, RW x 0, RW x 0, RW x 0, RW x 0, RW x 0, RW x 0, RW x 0, RW x 0, RW x 0, RW x 0, RW x 0, RW x 0])] = .ok (.xn "BadColumns" "columns" x) [.val x, .own (.lst [RW x 0, RW x 0, RW x 0, RW x 0, RW x 0, RW x 0, RW x 0, RW x 0, RW x 0, RW x 0, RW x 0, RW x 0, RW x 0, RW x 0, RW x 0, RW x 0])] := xn_ok rfl
  have r := tup3 (xf_ok v) (cl1x v (kd_ok (b1 := true) (b2 := false) (b3 := false) (b4 := false) (C := "BadColumns") (f := "columns") (x := x) (by decide +kernel) (by decide +kernel) (by decide +kernel) (by decide +kernel) kk0)) (is2_ok (T1 := tbxp_BadDay) (T2 := tbxp_BadItem) v (by decide +kernel) (by decide +kernel))
  unfold t_l_values_17
  exact app_set (i := 1) rfl r rfl (by simp)
theorem l_values_s18 (x : D) : t_l_values_18 [.val x, .own (.lst [RW x 0, RW x 0, RW x 0, RW x 0, RW x 0, RW x 0, RW x 0, RW x 0, RW x 0, RW x 0, RW x 0, RW x 0, RW x 0, RW x 0, RW x 0, RW x 0, RW x 0])] = .nx [.val x, .own (.lst [RW x 0, RW x 0, RW x 0, RW x 0, RW x 0, RW x 0, RW x 0, RW x 0, RW x 0, RW x 0, RW x 0, RW x 0, RW x 0, RW x 0, RW x 0, RW x 0, RW x 0, RW x 0])] := by
  have v : eXn "BadText" "line" (eVar 0) [.val x, .own (.lst [RW x 0, RW x 0, RW x 0, RW x 0, RW x 0, RW x 0, RW x 0, RW x 0, RW x 0, RW x 0, RW x 0, RW x 0, RW x 0, RW x 0, RW x 0, RW x 0, RW x 0])] = .ok (.xn "BadText" "line" x) [.val x, .own (.lst [RW x 0, RW x 0, RW x 0, RW x 0, RW x 0, RW x 0, RW x 0, RW x 0, RW x 0, RW x 0, RW x 0, RW x 0, RW x 0, RW x 0, RW x 0, RW x 0, RW x 0])] := xn_ok rfl
  have r := tup3 (xf_ok v) (cl1x v (kd_ok (b1 := true) (b2 := false) (b3 := false) (b4 := false) (C := "BadText") (f := "line") (x := x) (by decide +kernel) (by decide +kernel) (by decide +kernel) (by decide +kernel) kk0)) (is2_ok (T1 := tbxp_BadCommand) (T2 := tbxp_BadWish) v (by decide +kernel) (by decide +kernel))
  unfold t_l_values_18
  exact app_set (i := 1) rfl r rfl (by simp)
theorem l_values_s19 (x : D) : t_l_values_19 [.val x, .own (.lst [RW x 0, RW x 0, RW x 0, RW x 0, RW x 0, RW x 0, RW x 0, RW x 0, RW x 0, RW x 0, RW x 0, RW x 0, RW x 0, RW x 0, RW x 0, RW x 0, RW x 0, RW x 0])] = .nx [.val x, .own (.lst [RW x 0, RW x 0, RW x 0, RW x 0, RW x 0, RW x 0, RW x 0, RW x 0, RW x 0, RW x 0, RW x 0, RW x 0, RW x 0, RW x 0, RW x 0, RW x 0, RW x 0, RW x 0, RW x 0])] := by
  have v : eXn "BadCommand" "command" (eVar 0) [.val x, .own (.lst [RW x 0, RW x 0, RW x 0, RW x 0, RW x 0, RW x 0, RW x 0, RW x 0, RW x 0, RW x 0, RW x 0, RW x 0, RW x 0, RW x 0, RW x 0, RW x 0, RW x 0, RW x 0])] = .ok (.xn "BadCommand" "command" x) [.val x, .own (.lst [RW x 0, RW x 0, RW x 0, RW x 0, RW x 0, RW x 0, RW x 0, RW x 0, RW x 0, RW x 0, RW x 0, RW x 0, RW x 0, RW x 0, RW x 0, RW x 0, RW x 0, RW x 0])] := xn_ok rfl
  have r := tup3 (xf_ok v) (cl1x v (kd_ok (b1 := true) (b2 := false) (b3 := false) (b4 := false) (C := "BadCommand") (f := "command") (x := x) (by decide +kernel) (by decide +kernel) (by decide +kernel) (by decide +kernel) kk0)) (is2_ok (T1 := tbxp_BadText) (T2 := tbxp_BadUse) v (by decide +kernel) (by decide +kernel))
  unfold t_l_values_19
  exact app_set (i := 1) rfl r rfl (by simp)
theorem l_values_ok (x : D) : fn_l_values [.val x] = .ok [RW x 0, RW x 0, RW x 0, RW x 0, RW x 0, RW x 0, RW x 0, RW x 0, RW x 0, RW x 0, RW x 0, RW x 0, RW x 0, RW x 0, RW x 0, RW x 0, RW x 0, RW x 0, RW x 0] [.val x] := by
  have run : sem_l_values [.val x, .no] = .rf [RW x 0, RW x 0, RW x 0, RW x 0, RW x 0, RW x 0, RW x 0, RW x 0, RW x 0, RW x 0, RW x 0, RW x 0, RW x 0, RW x 0, RW x 0, RW x 0, RW x 0, RW x 0, RW x 0] [.val x, .no] := by
    unfold sem_l_values
    rw [seq_nx (l_values_s1 x), seq_nx (l_values_s2 x), seq_nx (l_values_s3 x), seq_nx (l_values_s4 x), seq_nx (l_values_s5 x), seq_nx (l_values_s6 x), seq_nx (l_values_s7 x), seq_nx (l_values_s8 x), seq_nx (l_values_s9 x), seq_nx (l_values_s10 x), seq_nx (l_values_s11 x), seq_nx (l_values_s12 x), seq_nx (l_values_s13 x), seq_nx (l_values_s14 x), seq_nx (l_values_s15 x), seq_nx (l_values_s16 x), seq_nx (l_values_s17 x), seq_nx (l_values_s18 x), seq_nx (l_values_s19 x)]
    rfl
  show fnN (fnBF 2 sem_l_values) _ = _
  unfold fnN fnBF
  have run : sem_l_values ([Cell.val x] ++ List.replicate (2 - [Cell.val x].length) .no) = .rf [RW x 0, RW x 0, RW x 0, RW x 0, RW x 0, RW x 0, RW x 0, RW x 0, RW x 0, RW x 0, RW x 0, RW x 0, RW x 0, RW x 0, RW x 0, RW x 0, RW x 0, RW x 0, RW x 0] [.val x, .no] := run
  simp only [run]
  rfl
theorem l_others_s1 (x : D) : t_l_others_1 [.val x, .no] = .nx [.val x, .own (.lst [RW x 1])] := by
  have v : eXn "NoOption" "option" (eVar 0) [.val x, .no] = .ok (.xn "NoOption" "option" x) [.val x, .no] := xn_ok rfl
  have r := tup3 (xf_ok v) (cl1x v (kd_ok (b1 := false) (b2 := true) (b3 := false) (b4 := false) (C := "NoOption") (f := "option") (x := x) (by decide +kernel) (by decide +kernel) (by decide +kernel) (by decide +kernel) kk1)) (is2_ok (T1 := tbxp_NoName) (T2 := tbxp_NoRow) v (by decide +kernel) (by decide +kernel))
  unfold t_l_others_1
  exact own_set (i := 1) (fl1 r) rfl
theorem l_others_s2 (x : D) : t_l_others_2 [.val x, .own (.lst [RW x 1])] = .nx [.val x, .own (.lst [RW x 1, RW x 1])] := by
  have v : eXn "NoRow" "row" (eVar 0) [.val x, .own (.lst [RW x 1])] = .ok (.xn "NoRow" "row" x) [.val x, .own (.lst [RW x 1])] := xn_ok rfl
  have r := tup3 (xf_ok v) (cl1x v (kd_ok (b1 := false) (b2 := true) (b3 := false) (b4 := false) (C := "NoRow") (f := "row") (x := x) (by decide +kernel) (by decide +kernel) (by decide +kernel) (by decide +kernel) kk1)) (is2_ok (T1 := tbxp_NoSpan) (T2 := tbxp_NoOption) v (by decide +kernel) (by decide +kernel))
  unfold t_l_others_2
  exact app_set (i := 1) rfl r rfl (by simp)
theorem l_others_s3 (x : D) : t_l_others_3 [.val x, .own (.lst [RW x 1, RW x 1])] = .nx [.val x, .own (.lst [RW x 1, RW x 1, RW x 1])] := by
  have v : eXn "NoSpan" "index" (eVar 0) [.val x, .own (.lst [RW x 1, RW x 1])] = .ok (.xn "NoSpan" "index" x) [.val x, .own (.lst [RW x 1, RW x 1])] := xn_ok rfl
  have r := tup3 (xf_ok v) (cl1x v (kd_ok (b1 := false) (b2 := true) (b3 := false) (b4 := false) (C := "NoSpan") (f := "index") (x := x) (by decide +kernel) (by decide +kernel) (by decide +kernel) (by decide +kernel) kk1)) (is2_ok (T1 := tbxp_NoRow) (T2 := tbxp_NoName) v (by decide +kernel) (by decide +kernel))
  unfold t_l_others_3
  exact app_set (i := 1) rfl r rfl (by simp)
theorem l_others_s4 (x : D) : t_l_others_4 [.val x, .own (.lst [RW x 1, RW x 1, RW x 1])] = .nx [.val x, .own (.lst [RW x 1, RW x 1, RW x 1, RW x 1])] := by
  have v : eXn "NoName" "name" (eVar 0) [.val x, .own (.lst [RW x 1, RW x 1, RW x 1])] = .ok (.xn "NoName" "name" x) [.val x, .own (.lst [RW x 1, RW x 1, RW x 1])] := xn_ok rfl
  have r := tup3 (xf_ok v) (cl1x v (kd_ok (b1 := false) (b2 := true) (b3 := false) (b4 := false) (C := "NoName") (f := "name") (x := x) (by decide +kernel) (by decide +kernel) (by decide +kernel) (by decide +kernel) kk1)) (is2_ok (T1 := tbxp_NoOption) (T2 := tbxp_NoSpan) v (by decide +kernel) (by decide +kernel))
  unfold t_l_others_4
  exact app_set (i := 1) rfl r rfl (by simp)
theorem l_others_s5 (x : D) : t_l_others_5 [.val x, .own (.lst [RW x 1, RW x 1, RW x 1, RW x 1])] = .nx [.val x, .own (.lst [RW x 1, RW x 1, RW x 1, RW x 1, RW x 2])] := by
  have v : eXn "TooMany" "limit" (eVar 0) [.val x, .own (.lst [RW x 1, RW x 1, RW x 1, RW x 1])] = .ok (.xn "TooMany" "limit" x) [.val x, .own (.lst [RW x 1, RW x 1, RW x 1, RW x 1])] := xn_ok rfl
  have r := tup3 (xf_ok v) (cl1x v (kd_ok (b1 := false) (b2 := false) (b3 := true) (b4 := false) (C := "TooMany") (f := "limit") (x := x) (by decide +kernel) (by decide +kernel) (by decide +kernel) (by decide +kernel) kk2)) (is2_ok (T1 := tbxp_TooWide) (T2 := tbxp_TooFar) v (by decide +kernel) (by decide +kernel))
  unfold t_l_others_5
  exact app_set (i := 1) rfl r rfl (by simp)
theorem l_others_s6 (x : D) : t_l_others_6 [.val x, .own (.lst [RW x 1, RW x 1, RW x 1, RW x 1, RW x 2])] = .nx [.val x, .own (.lst [RW x 1, RW x 1, RW x 1, RW x 1, RW x 2, RW x 2])] := by
  have v : eXn "TooWide" "limit" (eVar 0) [.val x, .own (.lst [RW x 1, RW x 1, RW x 1, RW x 1, RW x 2])] = .ok (.xn "TooWide" "limit" x) [.val x, .own (.lst [RW x 1, RW x 1, RW x 1, RW x 1, RW x 2])] := xn_ok rfl
  have r := tup3 (xf_ok v) (cl1x v (kd_ok (b1 := false) (b2 := false) (b3 := true) (b4 := false) (C := "TooWide") (f := "limit") (x := x) (by decide +kernel) (by decide +kernel) (by decide +kernel) (by decide +kernel) kk2)) (is2_ok (T1 := tbxp_TooMany) (T2 := tbxp_Endless) v (by decide +kernel) (by decide +kernel))
  unfold t_l_others_6
  exact app_set (i := 1) rfl r rfl (by simp)
theorem l_others_s7 (x : D) : t_l_others_7 [.val x, .own (.lst [RW x 1, RW x 1, RW x 1, RW x 1, RW x 2, RW x 2])] = .nx [.val x, .own (.lst [RW x 1, RW x 1, RW x 1, RW x 1, RW x 2, RW x 2, RW x 2])] := by
  have v : eXn "TooFar" "edge" (eVar 0) [.val x, .own (.lst [RW x 1, RW x 1, RW x 1, RW x 1, RW x 2, RW x 2])] = .ok (.xn "TooFar" "edge" x) [.val x, .own (.lst [RW x 1, RW x 1, RW x 1, RW x 1, RW x 2, RW x 2])] := xn_ok rfl
  have r := tup3 (xf_ok v) (cl1x v (kd_ok (b1 := false) (b2 := false) (b3 := true) (b4 := false) (C := "TooFar") (f := "edge") (x := x) (by decide +kernel) (by decide +kernel) (by decide +kernel) (by decide +kernel) kk2)) (is2_ok (T1 := tbxp_Endless) (T2 := tbxp_TooWide) v (by decide +kernel) (by decide +kernel))
  unfold t_l_others_7
  exact app_set (i := 1) rfl r rfl (by simp)
theorem l_others_s8 (x : D) : t_l_others_8 [.val x, .own (.lst [RW x 1, RW x 1, RW x 1, RW x 1, RW x 2, RW x 2, RW x 2])] = .nx [.val x, .own (.lst [RW x 1, RW x 1, RW x 1, RW x 1, RW x 2, RW x 2, RW x 2, RW x 2])] := by
  have v : eXn "Endless" "span" (eVar 0) [.val x, .own (.lst [RW x 1, RW x 1, RW x 1, RW x 1, RW x 2, RW x 2, RW x 2])] = .ok (.xn "Endless" "span" x) [.val x, .own (.lst [RW x 1, RW x 1, RW x 1, RW x 1, RW x 2, RW x 2, RW x 2])] := xn_ok rfl
  have r := tup3 (xf_ok v) (cl1x v (kd_ok (b1 := false) (b2 := false) (b3 := true) (b4 := false) (C := "Endless") (f := "span") (x := x) (by decide +kernel) (by decide +kernel) (by decide +kernel) (by decide +kernel) kk2)) (is2_ok (T1 := tbxp_TooFar) (T2 := tbxp_TooMany) v (by decide +kernel) (by decide +kernel))
  unfold t_l_others_8
  exact app_set (i := 1) rfl r rfl (by simp)
theorem l_others_s9 (x : D) : t_l_others_9 [.val x, .own (.lst [RW x 1, RW x 1, RW x 1, RW x 1, RW x 2, RW x 2, RW x 2, RW x 2])] = .nx [.val x, .own (.lst [RW x 1, RW x 1, RW x 1, RW x 1, RW x 2, RW x 2, RW x 2, RW x 2, RW x 3])] := by
  have v : eXn "NoWindow" "user" (eVar 0) [.val x, .own (.lst [RW x 1, RW x 1, RW x 1, RW x 1, RW x 2, RW x 2, RW x 2, RW x 2])] = .ok (.xn "NoWindow" "user" x) [.val x, .own (.lst [RW x 1, RW x 1, RW x 1, RW x 1, RW x 2, RW x 2, RW x 2, RW x 2])] := xn_ok rfl
  have r := tup3 (xf_ok v) (cl1x v (kd_ok (b1 := false) (b2 := false) (b3 := false) (b4 := true) (C := "NoWindow") (f := "user") (x := x) (by decide +kernel) (by decide +kernel) (by decide +kernel) (by decide +kernel) kk3)) (is1_ok (T1 := tbxp_Unfit) (b := false) v (by decide +kernel))
  unfold t_l_others_9
  exact app_set (i := 1) rfl r rfl (by simp)
theorem l_others_s10 (x : D) : t_l_others_10 [.val x, .own (.lst [RW x 1, RW x 1, RW x 1, RW x 1, RW x 2, RW x 2, RW x 2, RW x 2, RW x 3])] = .nx [.val x, .own (.lst [RW x 1, RW x 1, RW x 1, RW x 1, RW x 2, RW x 2, RW x 2, RW x 2, RW x 3, RW x 3])] := by
  have v : eXn "Unfit" "wish" (eVar 0) [.val x, .own (.lst [RW x 1, RW x 1, RW x 1, RW x 1, RW x 2, RW x 2, RW x 2, RW x 2, RW x 3])] = .ok (.xn "Unfit" "wish" x) [.val x, .own (.lst [RW x 1, RW x 1, RW x 1, RW x 1, RW x 2, RW x 2, RW x 2, RW x 2, RW x 3])] := xn_ok rfl
  have r := tup3 (xf_ok v) (cl1x v (kd_ok (b1 := false) (b2 := false) (b3 := false) (b4 := true) (C := "Unfit") (f := "wish") (x := x) (by decide +kernel) (by decide +kernel) (by decide +kernel) (by decide +kernel) kk3)) (is1_ok (T1 := tbxp_NoWindow) (b := false) v (by decide +kernel))
  unfold t_l_others_10
  exact app_set (i := 1) rfl r rfl (by simp)
theorem l_others_ok (x : D) : fn_l_others [.val x] = .ok [RW x 1, RW x 1, RW x 1, RW x 1, RW x 2, RW x 2, RW x 2, RW x 2, RW x 3, RW x 3] [.val x] := by
  have run : sem_l_others [.val x, .no] = .rf [RW x 1, RW x 1, RW x 1, RW x 1, RW x 2, RW x 2, RW x 2, RW x 2, RW x 3, RW x 3] [.val x, .no] := by
    unfold sem_l_others
    rw [seq_nx (l_others_s1 x), seq_nx (l_others_s2 x), seq_nx (l_others_s3 x), seq_nx (l_others_s4 x), seq_nx (l_others_s5 x), seq_nx (l_others_s6 x), seq_nx (l_others_s7 x), seq_nx (l_others_s8 x), seq_nx (l_others_s9 x), seq_nx (l_others_s10 x)]
    rfl
  show fnN (fnBF 2 sem_l_others) _ = _
  unfold fnN fnBF
  have run : sem_l_others ([Cell.val x] ++ List.replicate (2 - [Cell.val x].length) .no) = .rf [RW x 1, RW x 1, RW x 1, RW x 1, RW x 2, RW x 2, RW x 2, RW x 2, RW x 3, RW x 3] [.val x, .no] := run
  simp only [run]
  rfl
end Spk
namespace Spk
open PySem PySem.Spec PyProof.Rows L2
theorem nc_row {x : D} {j : Int} (h : Nc 3 309 x) (hj : j.natAbs < 10) : Nc 4 930 (RW x j) := by
  have a : Nc 1 1 (.lst [.int j]) := nc_lst (n := 0) (b := 0) (ds := [.int j]) (by simpa using nc_int (i := j) (by omega))
  have t := nc_tup (n := 3) (b := 309) (ds := [x, .lst [.int j], .bl false]) (by
    intro d hd
    simp only [List.mem_cons, List.not_mem_nil, or_false] at hd
    rcases hd with rfl | rfl | rfl
    · exact h
    · exact a.more (by decide) (by decide)
    · exact (nc_bl _).more (by decide) (by decide))
  exact t
theorem nc_rows {ds : List D} (h : ∀ d ∈ ds, Nc 4 930 d) (hl : ds.length ≤ 20) : Nc 5 20000 (.lst ds) :=
  (nc_lst h).more (Nat.le_refl _) (by
    have : ds.length * (930 + 1) ≤ 20 * 931 := Nat.mul_le_mul hl (Nat.le_refl _)
    omega)
section
variable {ρ : PEnv} {x : D} {f : EX}
theorem one_row {g : EX} {d : D} (h : g ρ = .ok d ρ) : eFr (fLst [.ex g]) ρ = .ok (.lst [d]) ρ := efr_ok (fl1 h)
theorem row_ok {j : Int} (h : f ρ = .ok x ρ) : eTup [(.ex f), (.ex (eFr (fLst [(.ex (eC (.int j)))]))), (.ex (eC (.bl false)))] ρ = .ok (RW x j) ρ :=
  tup3 h (one_row rfl) rfl
theorem rep_ok {j : Int} {k : Nat} (h : f ρ = .ok x ρ) (hk : k ≤ 1000) : eOp (op2 repD) [(.ex (eFr (fLst [(.ex (eTup [(.ex f), (.ex (eFr (fLst [(.ex (eC (.int j)))]))), (.ex (eC (.bl false)))]))]))), (.ex (eC (.int k)))] ρ = .ok (.lst (List.replicate k [RW x j]).flatten) ρ := by
  have e : ((k : Int)).toNat = k := Int.toNat_natCast k
  have q : repD (.lst [RW x j]) (.int k) = some (.lst (List.replicate k [RW x j]).flatten) := by
    unfold repD
    simp only [e]
    rw [if_pos ⟨by omega, by omega, by rw [sizeLine_eq]; simp only [List.length_cons, List.length_nil]; omega⟩]
  exact eop2_ok (one_row (row_ok h)) rfl q
theorem add_ls {xs ys : List D} (h : xs.length + ys.length ≤ 10000) : addD (.lst xs) (.lst ys) = some (.lst (xs ++ ys)) := by
  rw [add_ll, if_pos (by rw [sizeLine_eq]; omega)]
end
def LE (ns : List Int) (i : Nat) (c2 c3 c4 c5 c6 : Cell) : PEnv := [.val (.scr ns), .val (.int i), c2, c3, c4, c5, c6]
def NB (c : Cell) : Prop := nbO (some c) = true
theorem par2 {i j : Nat} {f g : EX} {ρ ρ1 ρ2 : PEnv} {a b : D} (h1 : f ρ = .ok a ρ1) (h2 : g ρ1 = .ok b ρ2) (n1 : nbO ρ2[i]? = true) (n2 : nbO ρ2[j]? = true) : sPar i j [.ex f, .ex g] ρ = .nx ((ρ2.set i (.val a)).set j (.val b)) := by
  have e : evs [.ex f, .ex g] ρ = .ok [.val a, .val b] ρ2 := by simp [evs, Opd.ev, h1, h2]
  unfold sPar
  rw [e]
  show (if _ then _ else _) = _
  rw [if_pos ⟨by rw [notBor_eq]; exact n1, by rw [notBor_eq]; exact n2⟩]
theorem orF {g h : BX} {ρ : PEnv} {b : Bool} (a : g ρ = .ok false ρ) (k : h ρ = .ok b ρ) : bOr g h ρ = .ok b ρ := by
  unfold bOr
  rw [a]; exact k
theorem clF1 {fn : List Cell → Rs (List D)} {f0 : EX} {ρ : PEnv} {a : D} {z : List D} (h0 : f0 ρ = .ok a ρ) (h : fn [.val a] = .ok z [.val a]) : eCall 1 fn [] [.ex f0] ρ = .ok z ρ := by
  simp [fnN, fnB, fnBF, sSeq, sRet, sRetF, sRetN, sIf, sSet, sNil, sExpr, sOwn, sPar, sAsg, sMut, sApp, sPut, eVar, eC, eOp, eCall, eAnd, eOr, eNot, eIf, eTup, eFr, fLst, Opd.ev, evs, Arg.dat, dats, vals?, op1, op2, appF, cells, Arg.cell, sls, wb, finC, eChain, bAnd, bOr, bNot, bBl, bTru, truth, lt_ii, le_ii, gt_ii, ge_ii, neg_i, add_ii, sub_ii, max_ii, min_ii, add_ll, add_tt, sizeLine_eq, gTupD, gsCons, gsNil, gSet, notBor_eq, nbO_val, nbO_no, nbO_own, nbO_oc, ix_l, ix_t, Cell.mu?, Cell.lst?, Mu.lst?, len_l, len_t, eIsi, isi_pr, isiD, tyS, List.lookup, gTup_pr, ix_pr0, ix_pr1, at2_0, at2_1, D.fit, D.pure, pures, D.py, pys, PyData.depth, PyData.depthAll, at3_0, at3_1, at3_2, set3_0, set3_1, set3_2, set2_0, set2_1, eq_ii, ne_ii, eq_ss, ne_ss, eq_bb, ne_bb, int_i, abs_i, Cell.put, putAt, len_scr, isN_int, isN_non, oc_mu, oc_noX, nbO_oc, sTry, trS, exS, Sr.out, dropX, noExn, Cell.noX, eXf, eXis, sRaiseB, eMethN, eMethX, noKey, isIns, eConI, eMkKN, eMkKX, eMkX, eMk, eFld, fldD, sFor, fSeq, seqD, eSFld, sFldS, putK, pow6, pow15, pow18, pow20, pow30, pow31, eOpX, eOpN, gSqD, sParF, sParE, eCallK, sIns, eJs, joinE, FPart.ev, fmtD, eJoin, gPl, gNil, gSeq, gYield, gFor, fMethN, fMethX, onlyX, eMethKX, eMethKN, eCallKPX, eCallKPN, fMethFX, fMethKX, fMethKN, h0, h]
section
variable {ns : List Int} {i : Nat} {c2 c3 c4 c5 c6 : Cell} {m : Mu} {x y : D}
theorem s4 (h : Nc 3 309 x) : t_law_4 (LE ns i c2 (.val x) c4 c5 c6) = .nx (LE ns i c2 (.val x) c4 c5 c6) := by
  have v : eVar 3 (LE ns i c2 (.val x) c4 c5 c6) = .ok x (LE ns i c2 (.val x) c4 c5 c6) := rfl
  generalize LE ns i c2 (.val x) c4 c5 c6 = ρ at *
  have a := efr_ok (clF1 v (l_values_ok x))
  have b := rep_ok (j := 0) (k := 19) v (by decide)
  unfold t_law_4
  exact ifn (rep_ne (nc_rows (ds := [RW x 0, RW x 0, RW x 0, RW x 0, RW x 0, RW x 0, RW x 0, RW x 0, RW x 0, RW x 0, RW x 0, RW x 0, RW x 0, RW x 0, RW x 0, RW x 0, RW x 0, RW x 0, RW x 0]) (by
    intro d hd
    have : d = RW x 0 := by simpa using hd
    rw [this]; exact nc_row h (by decide)) (by show 19 ≤ 20; decide)) (by decide) (by decide) a b)
theorem s5 (n6 : NB c6) : t_law_5 (LE ns i c2 c3 (.val y) c5 c6) = .nx (LE ns i c2 c3 (.val y) c5 (.val (.lst [RW y 1, RW y 1, RW y 1, RW y 1, RW y 2, RW y 2, RW y 2, RW y 2, RW y 3, RW y 3]))) := by
  have v : eVar 4 (LE ns i c2 c3 (.val y) c5 c6) = .ok y (LE ns i c2 c3 (.val y) c5 c6) := rfl
  unfold t_law_5
  refine set_ok (i := 6) (ρ1 := LE ns i c2 c3 (.val y) c5 c6) ?_ n6
  generalize LE ns i c2 c3 (.val y) c5 c6 = ρ at *
  have a := rep_ok (j := 1) (k := 4) v (by decide)
  have b := rep_ok (j := 2) (k := 4) v (by decide)
  have c := rep_ok (j := 3) (k := 2) v (by decide)
  have ab := eop2_ok a b (add_ls (by simp))
  exact eop2_ok ab c (add_ls (by simp))
theorem s6 (h : Nc 3 309 y) : t_law_6 (LE ns i c2 c3 (.val y) c5 (.val (.lst [RW y 1, RW y 1, RW y 1, RW y 1, RW y 2, RW y 2, RW y 2, RW y 2, RW y 3, RW y 3]))) = .nx (LE ns i c2 c3 (.val y) c5 (.val (.lst [RW y 1, RW y 1, RW y 1, RW y 1, RW y 2, RW y 2, RW y 2, RW y 2, RW y 3, RW y 3]))) := by
  have v : eVar 4 (LE ns i c2 c3 (.val y) c5 (.val (.lst [RW y 1, RW y 1, RW y 1, RW y 1, RW y 2, RW y 2, RW y 2, RW y 2, RW y 3, RW y 3]))) = .ok y (LE ns i c2 c3 (.val y) c5 (.val (.lst [RW y 1, RW y 1, RW y 1, RW y 1, RW y 2, RW y 2, RW y 2, RW y 2, RW y 3, RW y 3]))) := rfl
  have v6 : eVar 6 (LE ns i c2 c3 (.val y) c5 (.val (.lst [RW y 1, RW y 1, RW y 1, RW y 1, RW y 2, RW y 2, RW y 2, RW y 2, RW y 3, RW y 3]))) = .ok (.lst [RW y 1, RW y 1, RW y 1, RW y 1, RW y 2, RW y 2, RW y 2, RW y 2, RW y 3, RW y 3]) (LE ns i c2 c3 (.val y) c5 (.val (.lst [RW y 1, RW y 1, RW y 1, RW y 1, RW y 2, RW y 2, RW y 2, RW y 2, RW y 3, RW y 3]))) := rfl
  generalize LE ns i c2 c3 (.val y) c5 (.val (.lst [RW y 1, RW y 1, RW y 1, RW y 1, RW y 2, RW y 2, RW y 2, RW y 2, RW y 3, RW y 3])) = ρ at *
  have a := efr_ok (clF1 v (l_others_ok y))
  unfold t_law_6
  refine ifn (orF (rep_ne (nc_rows (ds := [RW y 1, RW y 1, RW y 1, RW y 1, RW y 2, RW y 2, RW y 2, RW y 2, RW y 3, RW y 3]) (by
    intro d hd
    have : d = RW y 1 ∨ d = RW y 2 ∨ d = RW y 3 := by
      simp only [List.mem_cons, List.not_mem_nil, or_false] at hd
      rcases hd with h | h | h | h | h | h | h | h | h | h <;> simp [h]
    rcases this with rfl | rfl | rfl
    · exact nc_row h (by decide)
    · exact nc_row h (by decide)
    · exact nc_row h (by decide)) (by show 10 ≤ 20; decide)) (by decide) (by decide) a v6) (rep_ne h (by decide) (by decide) (xf_ok (xn_ok v)) v))
theorem s7 (h : Nc 3 309 x) : t_law_7 (LE ns i c2 (.val x) c4 (.val (.xn "BadItem" "index" x)) c6) = .nx (LE ns i c2 (.val x) c4 (.val (.xn "BadItem" "index" x)) c6) := by
  have v : eVar 3 (LE ns i c2 (.val x) c4 (.val (.xn "BadItem" "index" x)) c6) = .ok x (LE ns i c2 (.val x) c4 (.val (.xn "BadItem" "index" x)) c6) := rfl
  have v5 : eVar 5 (LE ns i c2 (.val x) c4 (.val (.xn "BadItem" "index" x)) c6) = .ok (.xn "BadItem" "index" x) (LE ns i c2 (.val x) c4 (.val (.xn "BadItem" "index" x)) c6) := rfl
  generalize LE ns i c2 (.val x) c4 (.val (.xn "BadItem" "index" x)) c6 = ρ at *
  unfold t_law_7
  exact ifn (rep_ne h (by decide) (by decide) (xf_ok v5) v)
def St (ns : List Int) (ρ : PEnv) : Prop := ∃ c1 c2 c3 c4 c5 c6 : Cell, ρ = [.val (.scr ns), c1, c2, c3, c4, c5, c6] ∧ NB c1 ∧ NB c2 ∧ NB c3 ∧ NB c4 ∧ NB c5 ∧ NB c6
theorem turn_ok {k : Nat} {ρ : PEnv} (hk : k ≤ 63) (h : St ns ρ) : ∃ ρ1 ρ2, gSet 1 (.int k) ρ = some ρ1 ∧ b_law_1 ρ1 = .nx ρ2 ∧ St ns ρ2 := by
  obtain ⟨c1, c2, c3, c4, c5, c6, rfl, n1, n2, n3, n4, n5, n6⟩ := h
  have g : gSet 1 (.int k) [.val (.scr ns), c1, c2, c3, c4, c5, c6] = some (LE ns k c2 c3 c4 c5 c6) := by
    unfold gSet
    rw [if_pos (show notBor [.val (.scr ns), c1, c2, c3, c4, c5, c6] 1 = true by rw [notBor_eq]; exact n1)]; rfl
  obtain ⟨bs, bg, b0⟩ := bag_ok (ns := ns) hk
  have e1 : eCall 2 fn_l_bag [] [(.ex (eVar 0)), (.ex (eVar 1))] (LE ns k c2 c3 c4 c5 c6) = .ok bs (LE ns k c2 c3 c4 c5 c6) := by
    unfold LE
    simp [fnN, fnB, fnBF, sSeq, sRet, sRetF, sRetN, sIf, sSet, sNil, sExpr, sOwn, sPar, sAsg, sMut, sApp, sPut, eVar, eC, eOp, eCall, eAnd, eOr, eNot, eIf, eTup, eFr, fLst, Opd.ev, evs, Arg.dat, dats, vals?, op1, op2, appF, cells, Arg.cell, sls, wb, finC, eChain, bAnd, bOr, bNot, bBl, bTru, truth, lt_ii, le_ii, gt_ii, ge_ii, neg_i, add_ii, sub_ii, max_ii, min_ii, add_ll, add_tt, sizeLine_eq, gTupD, gsCons, gsNil, gSet, notBor_eq, nbO_val, nbO_no, nbO_own, nbO_oc, ix_l, ix_t, Cell.mu?, Cell.lst?, Mu.lst?, len_l, len_t, eIsi, isi_pr, isiD, tyS, List.lookup, gTup_pr, ix_pr0, ix_pr1, at2_0, at2_1, D.fit, D.pure, pures, D.py, pys, PyData.depth, PyData.depthAll, at3_0, at3_1, at3_2, set3_0, set3_1, set3_2, set2_0, set2_1, eq_ii, ne_ii, eq_ss, ne_ss, eq_bb, ne_bb, int_i, abs_i, Cell.put, putAt, len_scr, isN_int, isN_non, oc_mu, oc_noX, nbO_oc, sTry, trS, exS, Sr.out, dropX, noExn, Cell.noX, eXf, eXis, sRaiseB, eMethN, eMethX, noKey, isIns, eConI, eMkKN, eMkKX, eMkX, eMk, eFld, fldD, sFor, fSeq, seqD, eSFld, sFldS, putK, pow6, pow15, pow18, pow20, pow30, pow31, eOpX, eOpN, gSqD, sParF, sParE, eCallK, sIns, eJs, joinE, FPart.ev, fmtD, eJoin, gPl, gNil, gSeq, gYield, gFor, fMethN, fMethX, onlyX, eMethKX, eMethKN, eCallKPX, eCallKPN, fMethFX, fMethKX, fMethKN, bg]
  have s1 : t_law_1 (LE ns k c2 c3 c4 c5 c6) = .nx (LE ns k (.own (.lst bs)) c3 c4 c5 c6) := by
    unfold t_law_1
    exact own_set (i := 2) e1 n2
  obtain ⟨x, m1, ex, nx, b1⟩ := any_ok 3 8 0 (.lst bs) (by decide) b0 (by decide)
  obtain ⟨y, m2, ey, ny, b2⟩ := any_ok 2 8 (0 + cst 3) m1 (by decide) b1 (by decide)
  have hx : Nc 3 309 x := nx
  have hy : Nc 3 309 y := ny.more (by decide) (by decide)
  have s2 : t_law_2 (LE ns k (.own (.lst bs)) c3 c4 c5 c6) = .nx (LE ns k (.own m2) (.val x) (.val y) c5 c6) := by
    unfold t_law_2
    exact par2 (ρ1 := LE ns k (.own m1) c3 c4 c5 c6) (ρ2 := LE ns k (.own m2) c3 c4 c5 c6) (slx (i := 2) (g := eC (.int 3)) rfl rfl ex) (slx (i := 2) (g := eC (.int 2)) rfl rfl ey) n3 n4
  have s3 : t_law_3 (LE ns k (.own m2) (.val x) (.val y) c5 c6) = .nx (LE ns k (.own m2) (.val x) (.val y) (.val (.xn "BadItem" "index" x)) c6) := by
    unfold t_law_3
    exact set_ok (i := 5) (ρ1 := LE ns k (.own m2) (.val x) (.val y) c5 c6) (xn_ok rfl) n5
  refine ⟨_, _, g, ?_, .val (.int k), .own m2, .val x, .val y, .val (.xn "BadItem" "index" x), .val (.lst [RW y 1, RW y 1, RW y 1, RW y 1, RW y 2, RW y 2, RW y 2, RW y 2, RW y 3, RW y 3]), rfl, rfl, rfl, rfl, rfl, rfl, rfl⟩
  unfold b_law_1
  rw [seq_nx s1, seq_nx s2, seq_nx s3, seq_nx (s4 hx), seq_nx (s5 n6), seq_nx (s6 hy)]
  exact s7 hx
end
theorem law_run (ns : List Int) (hn : ns.length ≤ 63) : ∃ es, fn_law [.val (.scr ns)] = .ok (.bl true) es := by
  obtain ⟨k, hk, it⟩ : ∃ k : Nat, k ≤ 63 ∧ fRng1 (eOp (op2 maxD) [(.ex (eC (.int 1))), (.ex (eOp (op2 minD) [(.ex (eOp (op1 lenD) [(.ex (eVar 0))])), (.ex (eC (.int 20)))]))]) [.val (.scr ns), .no, .no, .no, .no, .no, .no] = .ok (rngD 0 k) [.val (.scr ns), .no, .no, .no, .no, .no, .no] := by
    have e : eOp (op2 maxD) [(.ex (eC (.int 1))), (.ex (eOp (op2 minD) [(.ex (eOp (op1 lenD) [(.ex (eVar 0))])), (.ex (eC (.int 20)))]))] [.val (.scr ns), .no, .no, .no, .no, .no, .no] = .ok (.int (max 1 (min (ns.length : Int) 20))) [.val (.scr ns), .no, .no, .no, .no, .no, .no] := by
      simp [fnN, fnB, fnBF, sSeq, sRet, sRetF, sRetN, sIf, sSet, sNil, sExpr, sOwn, sPar, sAsg, sMut, sApp, sPut, eVar, eC, eOp, eCall, eAnd, eOr, eNot, eIf, eTup, eFr, fLst, Opd.ev, evs, Arg.dat, dats, vals?, op1, op2, appF, cells, Arg.cell, sls, wb, finC, eChain, bAnd, bOr, bNot, bBl, bTru, truth, lt_ii, le_ii, gt_ii, ge_ii, neg_i, add_ii, sub_ii, max_ii, min_ii, add_ll, add_tt, sizeLine_eq, gTupD, gsCons, gsNil, gSet, notBor_eq, nbO_val, nbO_no, nbO_own, nbO_oc, ix_l, ix_t, Cell.mu?, Cell.lst?, Mu.lst?, len_l, len_t, eIsi, isi_pr, isiD, tyS, List.lookup, gTup_pr, ix_pr0, ix_pr1, at2_0, at2_1, D.fit, D.pure, pures, D.py, pys, PyData.depth, PyData.depthAll, at3_0, at3_1, at3_2, set3_0, set3_1, set3_2, set2_0, set2_1, eq_ii, ne_ii, eq_ss, ne_ss, eq_bb, ne_bb, int_i, abs_i, Cell.put, putAt, len_scr, isN_int, isN_non, oc_mu, oc_noX, nbO_oc, sTry, trS, exS, Sr.out, dropX, noExn, Cell.noX, eXf, eXis, sRaiseB, eMethN, eMethX, noKey, isIns, eConI, eMkKN, eMkKX, eMkX, eMk, eFld, fldD, sFor, fSeq, seqD, eSFld, sFldS, putK, pow6, pow15, pow18, pow20, pow30, pow31, eOpX, eOpN, gSqD, sParF, sParE, eCallK, sIns, eJs, joinE, FPart.ev, fmtD, eJoin, gPl, gNil, gSeq, gYield, gFor, fMethN, fMethX, onlyX, eMethKX, eMethKN, eCallKPX, eCallKPN, fMethFX, fMethKX, fMethKN]
      split <;> split <;> omega
    exact ⟨(max 1 (min (ns.length : Int) 20)).toNat, by omega, rng1_ok e (by omega) (by omega)⟩
  obtain ⟨ρ', lp, c1, c2, c3, c4, c5, c6, rfl, _⟩ := loop_c (g := gSet 1) (body := b_law_1) (fun d => ∃ k : Nat, k ≤ 63 ∧ d = .int k) (St ns) (by
    rintro d ρ ⟨k, hk, rfl⟩ hρ
    exact turn_ok hk hρ) (rngD 0 k) [.val (.scr ns), .no, .no, .no, .no, .no, .no] (fun d hd => by
      obtain ⟨j, hj, rfl⟩ := rngD_mem hd
      exact ⟨j, by omega, rfl⟩) ⟨.no, .no, .no, .no, .no, .no, rfl, rfl, rfl, rfl, rfl, rfl, rfl⟩
  have s8 : t_law_8 [.val (.scr ns), .no, .no, .no, .no, .no, .no] = .nx [.val (.scr ns), c1, c2, c3, c4, c5, c6] := for_ok it lp
  refine ⟨_, fn_rt (ρ := [.val (.scr ns), c1, c2, c3, c4, c5, c6]) ?_ rfl⟩
  show sem_law [.val (.scr ns), .no, .no, .no, .no, .no, .no] = _
  unfold sem_law
  rw [seq_nx s8]
  rfl
end Spk
namespace Spk
open PySem PySem.Spec PyProof.Rows L2
section
theorem all_mk {l : PySem.W.OpenLaw} {w : World} {K : PySem.W.Frag} {h : Heap} {mg : Str → Option Value} {fa : Addr} {C_BadEdge fI_BadEdge NS_BadEdge : Addr} {nm_BadEdge qn_BadEdge : Str} {bs_BadEdge sub_BadEdge : List Value} {sn_BadEdge : List Str} {ab_BadEdge : Bool} {col_BadEdge : Option Bool} {dd_BadEdge : Option Addr} {m0_BadEdge m1_BadEdge m2_BadEdge m3_BadEdge m5_BadEdge : Option Value} {iod_BadEdge ian_BadEdge : Option Addr} {isl_BadEdge : Array (Option Value)} {ioc_BadEdge ikV_BadEdge idc_BadEdge ipm_BadEdge icd_BadEdge ict_BadEdge : Value} {C_BadSpan fI_BadSpan NS_BadSpan : Addr} {nm_BadSpan qn_BadSpan : Str} {bs_BadSpan sub_BadSpan : List Value} {sn_BadSpan : List Str} {ab_BadSpan : Bool} {col_BadSpan : Option Bool} {dd_BadSpan : Option Addr} {m0_BadSpan m1_BadSpan m2_BadSpan m3_BadSpan m5_BadSpan : Option Value} {iod_BadSpan ian_BadSpan : Option Addr} {isl_BadSpan : Array (Option Value)} {ioc_BadSpan ikV_BadSpan idc_BadSpan ipm_BadSpan icd_BadSpan ict_BadSpan : Value} {C_BadWindow fI_BadWindow NS_BadWindow : Addr} {nm_BadWindow qn_BadWindow : Str} {bs_BadWindow sub_BadWindow : List Value} {sn_BadWindow : List Str} {ab_BadWindow : Bool} {col_BadWindow : Option Bool} {dd_BadWindow : Option Addr} {m0_BadWindow m1_BadWindow m2_BadWindow m3_BadWindow m5_BadWindow : Option Value} {iod_BadWindow ian_BadWindow : Option Addr} {isl_BadWindow : Array (Option Value)} {ioc_BadWindow ikV_BadWindow idc_BadWindow ipm_BadWindow icd_BadWindow ict_BadWindow : Value} {C_BadMoment fI_BadMoment NS_BadMoment : Addr} {nm_BadMoment qn_BadMoment : Str} {bs_BadMoment sub_BadMoment : List Value} {sn_BadMoment : List Str} {ab_BadMoment : Bool} {col_BadMoment : Option Bool} {dd_BadMoment : Option Addr} {m0_BadMoment m1_BadMoment m2_BadMoment m3_BadMoment m5_BadMoment : Option Value} {iod_BadMoment ian_BadMoment : Option Addr} {isl_BadMoment : Array (Option Value)} {ioc_BadMoment ikV_BadMoment idc_BadMoment ipm_BadMoment icd_BadMoment ict_BadMoment : Value} {C_BadEnds fI_BadEnds NS_BadEnds : Addr} {nm_BadEnds qn_BadEnds : Str} {bs_BadEnds sub_BadEnds : List Value} {sn_BadEnds : List Str} {ab_BadEnds : Bool} {col_BadEnds : Option Bool} {dd_BadEnds : Option Addr} {m0_BadEnds m1_BadEnds m2_BadEnds m3_BadEnds m5_BadEnds : Option Value} {iod_BadEnds ian_BadEnds : Option Addr} {isl_BadEnds : Array (Option Value)} {ioc_BadEnds ikV_BadEnds idc_BadEnds ipm_BadEnds icd_BadEnds ict_BadEnds : Value} {C_BadItem fI_BadItem NS_BadItem : Addr} {nm_BadItem qn_BadItem : Str} {bs_BadItem sub_BadItem : List Value} {sn_BadItem : List Str} {ab_BadItem : Bool} {col_BadItem : Option Bool} {dd_BadItem : Option Addr} {m0_BadItem m1_BadItem m2_BadItem m3_BadItem m5_BadItem : Option Value} {iod_BadItem ian_BadItem : Option Addr} {isl_BadItem : Array (Option Value)} {ioc_BadItem ikV_BadItem idc_BadItem ipm_BadItem icd_BadItem ict_BadItem : Value} {C_BadOrder fI_BadOrder NS_BadOrder : Addr} {nm_BadOrder qn_BadOrder : Str} {bs_BadOrder sub_BadOrder : List Value} {sn_BadOrder : List Str} {ab_BadOrder : Bool} {col_BadOrder : Option Bool} {dd_BadOrder : Option Addr} {m0_BadOrder m1_BadOrder m2_BadOrder m3_BadOrder m5_BadOrder : Option Value} {iod_BadOrder ian_BadOrder : Option Addr} {isl_BadOrder : Array (Option Value)} {ioc_BadOrder ikV_BadOrder idc_BadOrder ipm_BadOrder icd_BadOrder ict_BadOrder : Value} {C_BadTest fI_BadTest NS_BadTest : Addr} {nm_BadTest qn_BadTest : Str} {bs_BadTest sub_BadTest : List Value} {sn_BadTest : List Str} {ab_BadTest : Bool} {col_BadTest : Option Bool} {dd_BadTest : Option Addr} {m0_BadTest m1_BadTest m2_BadTest m3_BadTest m5_BadTest : Option Value} {iod_BadTest ian_BadTest : Option Addr} {isl_BadTest : Array (Option Value)} {ioc_BadTest ikV_BadTest idc_BadTest ipm_BadTest icd_BadTest ict_BadTest : Value} {C_BadDeed fI_BadDeed NS_BadDeed : Addr} {nm_BadDeed qn_BadDeed : Str} {bs_BadDeed sub_BadDeed : List Value} {sn_BadDeed : List Str} {ab_BadDeed : Bool} {col_BadDeed : Option Bool} {dd_BadDeed : Option Addr} {m0_BadDeed m1_BadDeed m2_BadDeed m3_BadDeed m5_BadDeed : Option Value} {iod_BadDeed ian_BadDeed : Option Addr} {isl_BadDeed : Array (Option Value)} {ioc_BadDeed ikV_BadDeed idc_BadDeed ipm_BadDeed icd_BadDeed ict_BadDeed : Value} {C_BadRule fI_BadRule NS_BadRule : Addr} {nm_BadRule qn_BadRule : Str} {bs_BadRule sub_BadRule : List Value} {sn_BadRule : List Str} {ab_BadRule : Bool} {col_BadRule : Option Bool} {dd_BadRule : Option Addr} {m0_BadRule m1_BadRule m2_BadRule m3_BadRule m5_BadRule : Option Value} {iod_BadRule ian_BadRule : Option Addr} {isl_BadRule : Array (Option Value)} {ioc_BadRule ikV_BadRule idc_BadRule ipm_BadRule icd_BadRule ict_BadRule : Value} {C_BadUse fI_BadUse NS_BadUse : Addr} {nm_BadUse qn_BadUse : Str} {bs_BadUse sub_BadUse : List Value} {sn_BadUse : List Str} {ab_BadUse : Bool} {col_BadUse : Option Bool} {dd_BadUse : Option Addr} {m0_BadUse m1_BadUse m2_BadUse m3_BadUse m5_BadUse : Option Value} {iod_BadUse ian_BadUse : Option Addr} {isl_BadUse : Array (Option Value)} {ioc_BadUse ikV_BadUse idc_BadUse ipm_BadUse icd_BadUse ict_BadUse : Value} {C_BadWish fI_BadWish NS_BadWish : Addr} {nm_BadWish qn_BadWish : Str} {bs_BadWish sub_BadWish : List Value} {sn_BadWish : List Str} {ab_BadWish : Bool} {col_BadWish : Option Bool} {dd_BadWish : Option Addr} {m0_BadWish m1_BadWish m2_BadWish m3_BadWish m5_BadWish : Option Value} {iod_BadWish ian_BadWish : Option Addr} {isl_BadWish : Array (Option Value)} {ioc_BadWish ikV_BadWish idc_BadWish ipm_BadWish icd_BadWish ict_BadWish : Value} {C_BadOption fI_BadOption NS_BadOption : Addr} {nm_BadOption qn_BadOption : Str} {bs_BadOption sub_BadOption : List Value} {sn_BadOption : List Str} {ab_BadOption : Bool} {col_BadOption : Option Bool} {dd_BadOption : Option Addr} {m0_BadOption m1_BadOption m2_BadOption m3_BadOption m5_BadOption : Option Value} {iod_BadOption ian_BadOption : Option Addr} {isl_BadOption : Array (Option Value)} {ioc_BadOption ikV_BadOption idc_BadOption ipm_BadOption icd_BadOption ict_BadOption : Value} {C_BadSweep fI_BadSweep NS_BadSweep : Addr} {nm_BadSweep qn_BadSweep : Str} {bs_BadSweep sub_BadSweep : List Value} {sn_BadSweep : List Str} {ab_BadSweep : Bool} {col_BadSweep : Option Bool} {dd_BadSweep : Option Addr} {m0_BadSweep m1_BadSweep m2_BadSweep m3_BadSweep m5_BadSweep : Option Value} {iod_BadSweep ian_BadSweep : Option Addr} {isl_BadSweep : Array (Option Value)} {ioc_BadSweep ikV_BadSweep idc_BadSweep ipm_BadSweep icd_BadSweep ict_BadSweep : Value} {C_BadLevel fI_BadLevel NS_BadLevel : Addr} {nm_BadLevel qn_BadLevel : Str} {bs_BadLevel sub_BadLevel : List Value} {sn_BadLevel : List Str} {ab_BadLevel : Bool} {col_BadLevel : Option Bool} {dd_BadLevel : Option Addr} {m0_BadLevel m1_BadLevel m2_BadLevel m3_BadLevel m5_BadLevel : Option Value} {iod_BadLevel ian_BadLevel : Option Addr} {isl_BadLevel : Array (Option Value)} {ioc_BadLevel ikV_BadLevel idc_BadLevel ipm_BadLevel icd_BadLevel ict_BadLevel : Value} {C_BadDay fI_BadDay NS_BadDay : Addr} {nm_BadDay qn_BadDay : Str} {bs_BadDay sub_BadDay : List Value} {sn_BadDay : List Str} {ab_BadDay : Bool} {col_BadDay : Option Bool} {dd_BadDay : Option Addr} {m0_BadDay m1_BadDay m2_BadDay m3_BadDay m5_BadDay : Option Value} {iod_BadDay ian_BadDay : Option Addr} {isl_BadDay : Array (Option Value)} {ioc_BadDay ikV_BadDay idc_BadDay ipm_BadDay icd_BadDay ict_BadDay : Value} {C_BadColumns fI_BadColumns NS_BadColumns : Addr} {nm_BadColumns qn_BadColumns : Str} {bs_BadColumns sub_BadColumns : List Value} {sn_BadColumns : List Str} {ab_BadColumns : Bool} {col_BadColumns : Option Bool} {dd_BadColumns : Option Addr} {m0_BadColumns m1_BadColumns m2_BadColumns m3_BadColumns m5_BadColumns : Option Value} {iod_BadColumns ian_BadColumns : Option Addr} {isl_BadColumns : Array (Option Value)} {ioc_BadColumns ikV_BadColumns idc_BadColumns ipm_BadColumns icd_BadColumns ict_BadColumns : Value} {C_BadText fI_BadText NS_BadText : Addr} {nm_BadText qn_BadText : Str} {bs_BadText sub_BadText : List Value} {sn_BadText : List Str} {ab_BadText : Bool} {col_BadText : Option Bool} {dd_BadText : Option Addr} {m0_BadText m1_BadText m2_BadText m3_BadText m5_BadText : Option Value} {iod_BadText ian_BadText : Option Addr} {isl_BadText : Array (Option Value)} {ioc_BadText ikV_BadText idc_BadText ipm_BadText icd_BadText ict_BadText : Value} {C_BadCommand fI_BadCommand NS_BadCommand : Addr} {nm_BadCommand qn_BadCommand : Str} {bs_BadCommand sub_BadCommand : List Value} {sn_BadCommand : List Str} {ab_BadCommand : Bool} {col_BadCommand : Option Bool} {dd_BadCommand : Option Addr} {m0_BadCommand m1_BadCommand m2_BadCommand m3_BadCommand m5_BadCommand : Option Value} {iod_BadCommand ian_BadCommand : Option Addr} {isl_BadCommand : Array (Option Value)} {ioc_BadCommand ikV_BadCommand idc_BadCommand ipm_BadCommand icd_BadCommand ict_BadCommand : Value} {C_NoOption fI_NoOption NS_NoOption : Addr} {nm_NoOption qn_NoOption : Str} {bs_NoOption sub_NoOption : List Value} {sn_NoOption : List Str} {ab_NoOption : Bool} {col_NoOption : Option Bool} {dd_NoOption : Option Addr} {m0_NoOption m1_NoOption m2_NoOption m3_NoOption m5_NoOption : Option Value} {iod_NoOption ian_NoOption : Option Addr} {isl_NoOption : Array (Option Value)} {ioc_NoOption ikV_NoOption idc_NoOption ipm_NoOption icd_NoOption ict_NoOption : Value} {C_NoRow fI_NoRow NS_NoRow : Addr} {nm_NoRow qn_NoRow : Str} {bs_NoRow sub_NoRow : List Value} {sn_NoRow : List Str} {ab_NoRow : Bool} {col_NoRow : Option Bool} {dd_NoRow : Option Addr} {m0_NoRow m1_NoRow m2_NoRow m3_NoRow m5_NoRow : Option Value} {iod_NoRow ian_NoRow : Option Addr} {isl_NoRow : Array (Option Value)} {ioc_NoRow ikV_NoRow idc_NoRow ipm_NoRow icd_NoRow ict_NoRow : Value} {C_NoSpan fI_NoSpan NS_NoSpan : Addr} {nm_NoSpan qn_NoSpan : Str} {bs_NoSpan sub_NoSpan : List Value} {sn_NoSpan : List Str} {ab_NoSpan : Bool} {col_NoSpan : Option Bool} {dd_NoSpan : Option Addr} {m0_NoSpan m1_NoSpan m2_NoSpan m3_NoSpan m5_NoSpan : Option Value} {iod_NoSpan ian_NoSpan : Option Addr} {isl_NoSpan : Array (Option Value)} {ioc_NoSpan ikV_NoSpan idc_NoSpan ipm_NoSpan icd_NoSpan ict_NoSpan : Value} {C_NoName fI_NoName NS_NoName : Addr} {nm_NoName qn_NoName : Str} {bs_NoName sub_NoName : List Value} {sn_NoName : List Str} {ab_NoName : Bool} {col_NoName : Option Bool} {dd_NoName : Option Addr} {m0_NoName m1_NoName m2_NoName m3_NoName m5_NoName : Option Value} {iod_NoName ian_NoName : Option Addr} {isl_NoName : Array (Option Value)} {ioc_NoName ikV_NoName idc_NoName ipm_NoName icd_NoName ict_NoName : Value} {C_TooMany fI_TooMany NS_TooMany : Addr} {nm_TooMany qn_TooMany : Str} {bs_TooMany sub_TooMany : List Value} {sn_TooMany : List Str} {ab_TooMany : Bool} {col_TooMany : Option Bool} {dd_TooMany : Option Addr} {m0_TooMany m1_TooMany m2_TooMany m3_TooMany m5_TooMany : Option Value} {iod_TooMany ian_TooMany : Option Addr} {isl_TooMany : Array (Option Value)} {ioc_TooMany ikV_TooMany idc_TooMany ipm_TooMany icd_TooMany ict_TooMany : Value} {C_TooWide fI_TooWide NS_TooWide : Addr} {nm_TooWide qn_TooWide : Str} {bs_TooWide sub_TooWide : List Value} {sn_TooWide : List Str} {ab_TooWide : Bool} {col_TooWide : Option Bool} {dd_TooWide : Option Addr} {m0_TooWide m1_TooWide m2_TooWide m3_TooWide m5_TooWide : Option Value} {iod_TooWide ian_TooWide : Option Addr} {isl_TooWide : Array (Option Value)} {ioc_TooWide ikV_TooWide idc_TooWide ipm_TooWide icd_TooWide ict_TooWide : Value} {C_TooFar fI_TooFar NS_TooFar : Addr} {nm_TooFar qn_TooFar : Str} {bs_TooFar sub_TooFar : List Value} {sn_TooFar : List Str} {ab_TooFar : Bool} {col_TooFar : Option Bool} {dd_TooFar : Option Addr} {m0_TooFar m1_TooFar m2_TooFar m3_TooFar m5_TooFar : Option Value} {iod_TooFar ian_TooFar : Option Addr} {isl_TooFar : Array (Option Value)} {ioc_TooFar ikV_TooFar idc_TooFar ipm_TooFar icd_TooFar ict_TooFar : Value} {C_Endless fI_Endless NS_Endless : Addr} {nm_Endless qn_Endless : Str} {bs_Endless sub_Endless : List Value} {sn_Endless : List Str} {ab_Endless : Bool} {col_Endless : Option Bool} {dd_Endless : Option Addr} {m0_Endless m1_Endless m2_Endless m3_Endless m5_Endless : Option Value} {iod_Endless ian_Endless : Option Addr} {isl_Endless : Array (Option Value)} {ioc_Endless ikV_Endless idc_Endless ipm_Endless icd_Endless ict_Endless : Value} {C_NoWindow fI_NoWindow NS_NoWindow : Addr} {nm_NoWindow qn_NoWindow : Str} {bs_NoWindow sub_NoWindow : List Value} {sn_NoWindow : List Str} {ab_NoWindow : Bool} {col_NoWindow : Option Bool} {dd_NoWindow : Option Addr} {m0_NoWindow m1_NoWindow m2_NoWindow m3_NoWindow m5_NoWindow : Option Value} {iod_NoWindow ian_NoWindow : Option Addr} {isl_NoWindow : Array (Option Value)} {ioc_NoWindow ikV_NoWindow idc_NoWindow ipm_NoWindow icd_NoWindow ict_NoWindow : Value} {C_Unfit fI_Unfit NS_Unfit : Addr} {nm_Unfit qn_Unfit : Str} {bs_Unfit sub_Unfit : List Value} {sn_Unfit : List Str} {ab_Unfit : Bool} {col_Unfit : Option Bool} {dd_Unfit : Option Addr} {m0_Unfit m1_Unfit m2_Unfit m3_Unfit m5_Unfit : Option Value} {iod_Unfit ian_Unfit : Option Addr} {isl_Unfit : Array (Option Value)} {ioc_Unfit ikV_Unfit idc_Unfit ipm_Unfit icd_Unfit ict_Unfit : Value} {f_l_bag : Addr} {od_l_bag an_l_bag : Option Addr} {sl_l_bag : Array (Option Value)} {oc_l_bag kV_l_bag dc_l_bag pm_l_bag cd_l_bag ct_l_bag : Value} {f_l_take : Addr} {od_l_take an_l_take : Option Addr} {sl_l_take : Array (Option Value)} {oc_l_take kV_l_take dc_l_take pm_l_take cd_l_take ct_l_take : Value} {f_l_any : Addr} {od_l_any an_l_any : Option Addr} {sl_l_any : Array (Option Value)} {oc_l_any kV_l_any dc_l_any pm_l_any cd_l_any ct_l_any : Value} {f_l_kinds : Addr} {od_l_kinds an_l_kinds : Option Addr} {sl_l_kinds : Array (Option Value)} {oc_l_kinds kV_l_kinds dc_l_kinds pm_l_kinds cd_l_kinds ct_l_kinds : Value} {f_l_values : Addr} {od_l_values an_l_values : Option Addr} {sl_l_values : Array (Option Value)} {oc_l_values kV_l_values dc_l_values pm_l_values cd_l_values ct_l_values : Value} {f_l_others : Addr} {od_l_others an_l_others : Option Addr} {sl_l_others : Array (Option Value)} {oc_l_others kV_l_others dc_l_others pm_l_others cd_l_others ct_l_others : Value} {f_law : Addr} {od_law an_law : Option Addr} {sl_law : Array (Option Value)} {oc_law kV_law dc_law pm_law cd_law ct_law : Value} (X : K.In h) (G : h.Ns mainGlobals mg) (hfa : mg "law" = some (.ref fa))
    (z_LookupError : PySem.W.nsIn K mainGlobals "LookupError" = some none)
    (z_OverflowError : PySem.W.nsIn K mainGlobals "OverflowError" = some none)
    (z_RuntimeError : PySem.W.nsIn K mainGlobals "RuntimeError" = some none)
    (z_ValueError : PySem.W.nsIn K mainGlobals "ValueError" = some none)
    (z_abs : PySem.W.nsIn K mainGlobals "abs" = some none)
    (z_int : PySem.W.nsIn K mainGlobals "int" = some none)
    (z_isinstance : PySem.W.nsIn K mainGlobals "isinstance" = some none)
    (z_len : PySem.W.nsIn K mainGlobals "len" = some none)
    (z_max : PySem.W.nsIn K mainGlobals "max" = some none)
    (z_min : PySem.W.nsIn K mainGlobals "min" = some none)
    (z_range : PySem.W.nsIn K mainGlobals "range" = some none)
    (z_repr : PySem.W.nsIn K mainGlobals "repr" = some none)
    (z_tuple : PySem.W.nsIn K mainGlobals "tuple" = some none)
    (eg_BadEdge : PySem.W.nsIn K mainGlobals "BadEdge" = some (some (.ref C_BadEdge)))
    (ex_BadEdge : K.lookup C_BadEdge = some (excClassObj nm_BadEdge qn_BadEdge C_BadEdge NS_BadEdge bs_BadEdge [.type "ValueError", .type "Exception", .type "BaseException", .type "object"] true sn_BadEdge sub_BadEdge ab_BadEdge col_BadEdge dd_BadEdge m0_BadEdge m1_BadEdge m2_BadEdge m3_BadEdge m5_BadEdge "ValueError.__new__"))
    (esa_BadEdge : PySem.W.findIn K (.ref C_BadEdge) "__setattr__" = some (some (.builtin "object.__setattr__")))
    (ega_BadEdge : PySem.W.findIn K (.ref C_BadEdge) "__getattribute__" = some (some (.builtin "BaseException.__getattribute__")))
    (egg_BadEdge : PySem.W.findIn K (.ref C_BadEdge) "__getattr__" = some none)
    (enf_BadEdge : PySem.W.findIn K (.ref C_BadEdge) "edge" = some none)
    (ekC_BadEdge : PySem.W.keepIn K (.ref C_BadEdge) = true)
    (eeC_BadEdge : PySem.W.subIn K (.ref C_BadEdge) (.type "BaseException") = some true)
    (etC_BadEdge : PySem.W.typeIn K (.ref C_BadEdge) = some (.type "type"))
    (ehC_BadEdge : PySem.W.hasDictIn K C_BadEdge = true)
    (eiC_BadEdge : PySem.W.isClsIn K C_BadEdge = true)
    (esC_BadEdge : PySem.W.subIn K (.ref C_BadEdge) (.ref C_BadEdge) = some true)
    (eai_BadEdge : PySem.W.findIn K (.ref C_BadEdge) "__init__" = some (some (.ref fI_BadEdge)))
    (eti_BadEdge : PySem.W.typeIn K (.ref fI_BadEdge) = some (.type "function"))
    (eli_BadEdge : K.lookup fI_BadEdge = some ⟨ioc_BadEdge, iod_BadEdge, .func (PySem.W.fnOf "__init__" "BadEdge.__init__" (defArgs (inClass (topS 1) 0)) (defBody (inClass (topS 1) 0)) (defScope (inClass (topS 1) 0)) .none ikV_BadEdge idc_BadEdge ipm_BadEdge ian_BadEdge icd_BadEdge ict_BadEdge), isl_BadEdge⟩)
    (eci_BadEdge : PySem.W.codeIn K icd_BadEdge "BadEdge.__init__" = true)
    (eki_BadEdge : PySem.W.keepIn K (.ref fI_BadEdge) = true)
    (eg_BadSpan : PySem.W.nsIn K mainGlobals "BadSpan" = some (some (.ref C_BadSpan)))
    (ex_BadSpan : K.lookup C_BadSpan = some (excClassObj nm_BadSpan qn_BadSpan C_BadSpan NS_BadSpan bs_BadSpan [.type "ValueError", .type "Exception", .type "BaseException", .type "object"] true sn_BadSpan sub_BadSpan ab_BadSpan col_BadSpan dd_BadSpan m0_BadSpan m1_BadSpan m2_BadSpan m3_BadSpan m5_BadSpan "ValueError.__new__"))
    (esa_BadSpan : PySem.W.findIn K (.ref C_BadSpan) "__setattr__" = some (some (.builtin "object.__setattr__")))
    (ega_BadSpan : PySem.W.findIn K (.ref C_BadSpan) "__getattribute__" = some (some (.builtin "BaseException.__getattribute__")))
    (egg_BadSpan : PySem.W.findIn K (.ref C_BadSpan) "__getattr__" = some none)
    (enf_BadSpan : PySem.W.findIn K (.ref C_BadSpan) "span" = some none)
    (ekC_BadSpan : PySem.W.keepIn K (.ref C_BadSpan) = true)
    (eeC_BadSpan : PySem.W.subIn K (.ref C_BadSpan) (.type "BaseException") = some true)
    (etC_BadSpan : PySem.W.typeIn K (.ref C_BadSpan) = some (.type "type"))
    (ehC_BadSpan : PySem.W.hasDictIn K C_BadSpan = true)
    (eiC_BadSpan : PySem.W.isClsIn K C_BadSpan = true)
    (esC_BadSpan : PySem.W.subIn K (.ref C_BadSpan) (.ref C_BadSpan) = some true)
    (eai_BadSpan : PySem.W.findIn K (.ref C_BadSpan) "__init__" = some (some (.ref fI_BadSpan)))
    (eti_BadSpan : PySem.W.typeIn K (.ref fI_BadSpan) = some (.type "function"))
    (eli_BadSpan : K.lookup fI_BadSpan = some ⟨ioc_BadSpan, iod_BadSpan, .func (PySem.W.fnOf "__init__" "BadSpan.__init__" (defArgs (inClass (topS 2) 0)) (defBody (inClass (topS 2) 0)) (defScope (inClass (topS 2) 0)) .none ikV_BadSpan idc_BadSpan ipm_BadSpan ian_BadSpan icd_BadSpan ict_BadSpan), isl_BadSpan⟩)
    (eci_BadSpan : PySem.W.codeIn K icd_BadSpan "BadSpan.__init__" = true)
    (eki_BadSpan : PySem.W.keepIn K (.ref fI_BadSpan) = true)
    (eg_BadWindow : PySem.W.nsIn K mainGlobals "BadWindow" = some (some (.ref C_BadWindow)))
    (ex_BadWindow : K.lookup C_BadWindow = some (excClassObj nm_BadWindow qn_BadWindow C_BadWindow NS_BadWindow bs_BadWindow [.type "ValueError", .type "Exception", .type "BaseException", .type "object"] true sn_BadWindow sub_BadWindow ab_BadWindow col_BadWindow dd_BadWindow m0_BadWindow m1_BadWindow m2_BadWindow m3_BadWindow m5_BadWindow "ValueError.__new__"))
    (esa_BadWindow : PySem.W.findIn K (.ref C_BadWindow) "__setattr__" = some (some (.builtin "object.__setattr__")))
    (ega_BadWindow : PySem.W.findIn K (.ref C_BadWindow) "__getattribute__" = some (some (.builtin "BaseException.__getattribute__")))
    (egg_BadWindow : PySem.W.findIn K (.ref C_BadWindow) "__getattr__" = some none)
    (enf_BadWindow : PySem.W.findIn K (.ref C_BadWindow) "window" = some none)
    (ekC_BadWindow : PySem.W.keepIn K (.ref C_BadWindow) = true)
    (eeC_BadWindow : PySem.W.subIn K (.ref C_BadWindow) (.type "BaseException") = some true)
    (etC_BadWindow : PySem.W.typeIn K (.ref C_BadWindow) = some (.type "type"))
    (ehC_BadWindow : PySem.W.hasDictIn K C_BadWindow = true)
    (eiC_BadWindow : PySem.W.isClsIn K C_BadWindow = true)
    (esC_BadWindow : PySem.W.subIn K (.ref C_BadWindow) (.ref C_BadWindow) = some true)
    (eai_BadWindow : PySem.W.findIn K (.ref C_BadWindow) "__init__" = some (some (.ref fI_BadWindow)))
    (eti_BadWindow : PySem.W.typeIn K (.ref fI_BadWindow) = some (.type "function"))
    (eli_BadWindow : K.lookup fI_BadWindow = some ⟨ioc_BadWindow, iod_BadWindow, .func (PySem.W.fnOf "__init__" "BadWindow.__init__" (defArgs (inClass (topS 3) 0)) (defBody (inClass (topS 3) 0)) (defScope (inClass (topS 3) 0)) .none ikV_BadWindow idc_BadWindow ipm_BadWindow ian_BadWindow icd_BadWindow ict_BadWindow), isl_BadWindow⟩)
    (eci_BadWindow : PySem.W.codeIn K icd_BadWindow "BadWindow.__init__" = true)
    (eki_BadWindow : PySem.W.keepIn K (.ref fI_BadWindow) = true)
    (eg_BadMoment : PySem.W.nsIn K mainGlobals "BadMoment" = some (some (.ref C_BadMoment)))
    (ex_BadMoment : K.lookup C_BadMoment = some (excClassObj nm_BadMoment qn_BadMoment C_BadMoment NS_BadMoment bs_BadMoment [.type "ValueError", .type "Exception", .type "BaseException", .type "object"] true sn_BadMoment sub_BadMoment ab_BadMoment col_BadMoment dd_BadMoment m0_BadMoment m1_BadMoment m2_BadMoment m3_BadMoment m5_BadMoment "ValueError.__new__"))
    (esa_BadMoment : PySem.W.findIn K (.ref C_BadMoment) "__setattr__" = some (some (.builtin "object.__setattr__")))
    (ega_BadMoment : PySem.W.findIn K (.ref C_BadMoment) "__getattribute__" = some (some (.builtin "BaseException.__getattribute__")))
    (egg_BadMoment : PySem.W.findIn K (.ref C_BadMoment) "__getattr__" = some none)
    (enf_BadMoment : PySem.W.findIn K (.ref C_BadMoment) "moment" = some none)
    (ekC_BadMoment : PySem.W.keepIn K (.ref C_BadMoment) = true)
    (eeC_BadMoment : PySem.W.subIn K (.ref C_BadMoment) (.type "BaseException") = some true)
    (etC_BadMoment : PySem.W.typeIn K (.ref C_BadMoment) = some (.type "type"))
    (ehC_BadMoment : PySem.W.hasDictIn K C_BadMoment = true)
    (eiC_BadMoment : PySem.W.isClsIn K C_BadMoment = true)
    (esC_BadMoment : PySem.W.subIn K (.ref C_BadMoment) (.ref C_BadMoment) = some true)
    (eai_BadMoment : PySem.W.findIn K (.ref C_BadMoment) "__init__" = some (some (.ref fI_BadMoment)))
    (eti_BadMoment : PySem.W.typeIn K (.ref fI_BadMoment) = some (.type "function"))
    (eli_BadMoment : K.lookup fI_BadMoment = some ⟨ioc_BadMoment, iod_BadMoment, .func (PySem.W.fnOf "__init__" "BadMoment.__init__" (defArgs (inClass (topS 4) 0)) (defBody (inClass (topS 4) 0)) (defScope (inClass (topS 4) 0)) .none ikV_BadMoment idc_BadMoment ipm_BadMoment ian_BadMoment icd_BadMoment ict_BadMoment), isl_BadMoment⟩)
    (eci_BadMoment : PySem.W.codeIn K icd_BadMoment "BadMoment.__init__" = true)
    (eki_BadMoment : PySem.W.keepIn K (.ref fI_BadMoment) = true)
    (eg_BadEnds : PySem.W.nsIn K mainGlobals "BadEnds" = some (some (.ref C_BadEnds)))
    (ex_BadEnds : K.lookup C_BadEnds = some (excClassObj nm_BadEnds qn_BadEnds C_BadEnds NS_BadEnds bs_BadEnds [.type "ValueError", .type "Exception", .type "BaseException", .type "object"] true sn_BadEnds sub_BadEnds ab_BadEnds col_BadEnds dd_BadEnds m0_BadEnds m1_BadEnds m2_BadEnds m3_BadEnds m5_BadEnds "ValueError.__new__"))
    (esa_BadEnds : PySem.W.findIn K (.ref C_BadEnds) "__setattr__" = some (some (.builtin "object.__setattr__")))
    (ega_BadEnds : PySem.W.findIn K (.ref C_BadEnds) "__getattribute__" = some (some (.builtin "BaseException.__getattribute__")))
    (egg_BadEnds : PySem.W.findIn K (.ref C_BadEnds) "__getattr__" = some none)
    (enf_BadEnds : PySem.W.findIn K (.ref C_BadEnds) "ends" = some none)
    (ekC_BadEnds : PySem.W.keepIn K (.ref C_BadEnds) = true)
    (eeC_BadEnds : PySem.W.subIn K (.ref C_BadEnds) (.type "BaseException") = some true)
    (etC_BadEnds : PySem.W.typeIn K (.ref C_BadEnds) = some (.type "type"))
    (ehC_BadEnds : PySem.W.hasDictIn K C_BadEnds = true)
    (eiC_BadEnds : PySem.W.isClsIn K C_BadEnds = true)
    (esC_BadEnds : PySem.W.subIn K (.ref C_BadEnds) (.ref C_BadEnds) = some true)
    (eai_BadEnds : PySem.W.findIn K (.ref C_BadEnds) "__init__" = some (some (.ref fI_BadEnds)))
    (eti_BadEnds : PySem.W.typeIn K (.ref fI_BadEnds) = some (.type "function"))
    (eli_BadEnds : K.lookup fI_BadEnds = some ⟨ioc_BadEnds, iod_BadEnds, .func (PySem.W.fnOf "__init__" "BadEnds.__init__" (defArgs (inClass (topS 5) 0)) (defBody (inClass (topS 5) 0)) (defScope (inClass (topS 5) 0)) .none ikV_BadEnds idc_BadEnds ipm_BadEnds ian_BadEnds icd_BadEnds ict_BadEnds), isl_BadEnds⟩)
    (eci_BadEnds : PySem.W.codeIn K icd_BadEnds "BadEnds.__init__" = true)
    (eki_BadEnds : PySem.W.keepIn K (.ref fI_BadEnds) = true)
    (eg_BadItem : PySem.W.nsIn K mainGlobals "BadItem" = some (some (.ref C_BadItem)))
    (ex_BadItem : K.lookup C_BadItem = some (excClassObj nm_BadItem qn_BadItem C_BadItem NS_BadItem bs_BadItem [.type "ValueError", .type "Exception", .type "BaseException", .type "object"] true sn_BadItem sub_BadItem ab_BadItem col_BadItem dd_BadItem m0_BadItem m1_BadItem m2_BadItem m3_BadItem m5_BadItem "ValueError.__new__"))
    (esa_BadItem : PySem.W.findIn K (.ref C_BadItem) "__setattr__" = some (some (.builtin "object.__setattr__")))
    (ega_BadItem : PySem.W.findIn K (.ref C_BadItem) "__getattribute__" = some (some (.builtin "BaseException.__getattribute__")))
    (egg_BadItem : PySem.W.findIn K (.ref C_BadItem) "__getattr__" = some none)
    (enf_BadItem : PySem.W.findIn K (.ref C_BadItem) "index" = some none)
    (ekC_BadItem : PySem.W.keepIn K (.ref C_BadItem) = true)
    (eeC_BadItem : PySem.W.subIn K (.ref C_BadItem) (.type "BaseException") = some true)
    (etC_BadItem : PySem.W.typeIn K (.ref C_BadItem) = some (.type "type"))
    (ehC_BadItem : PySem.W.hasDictIn K C_BadItem = true)
    (eiC_BadItem : PySem.W.isClsIn K C_BadItem = true)
    (esC_BadItem : PySem.W.subIn K (.ref C_BadItem) (.ref C_BadItem) = some true)
    (eai_BadItem : PySem.W.findIn K (.ref C_BadItem) "__init__" = some (some (.ref fI_BadItem)))
    (eti_BadItem : PySem.W.typeIn K (.ref fI_BadItem) = some (.type "function"))
    (eli_BadItem : K.lookup fI_BadItem = some ⟨ioc_BadItem, iod_BadItem, .func (PySem.W.fnOf "__init__" "BadItem.__init__" (defArgs (inClass (topS 6) 0)) (defBody (inClass (topS 6) 0)) (defScope (inClass (topS 6) 0)) .none ikV_BadItem idc_BadItem ipm_BadItem ian_BadItem icd_BadItem ict_BadItem), isl_BadItem⟩)
    (eci_BadItem : PySem.W.codeIn K icd_BadItem "BadItem.__init__" = true)
    (eki_BadItem : PySem.W.keepIn K (.ref fI_BadItem) = true)
    (eg_BadOrder : PySem.W.nsIn K mainGlobals "BadOrder" = some (some (.ref C_BadOrder)))
    (ex_BadOrder : K.lookup C_BadOrder = some (excClassObj nm_BadOrder qn_BadOrder C_BadOrder NS_BadOrder bs_BadOrder [.type "ValueError", .type "Exception", .type "BaseException", .type "object"] true sn_BadOrder sub_BadOrder ab_BadOrder col_BadOrder dd_BadOrder m0_BadOrder m1_BadOrder m2_BadOrder m3_BadOrder m5_BadOrder "ValueError.__new__"))
    (esa_BadOrder : PySem.W.findIn K (.ref C_BadOrder) "__setattr__" = some (some (.builtin "object.__setattr__")))
    (ega_BadOrder : PySem.W.findIn K (.ref C_BadOrder) "__getattribute__" = some (some (.builtin "BaseException.__getattribute__")))
    (egg_BadOrder : PySem.W.findIn K (.ref C_BadOrder) "__getattr__" = some none)
    (enf_BadOrder : PySem.W.findIn K (.ref C_BadOrder) "order" = some none)
    (ekC_BadOrder : PySem.W.keepIn K (.ref C_BadOrder) = true)
    (eeC_BadOrder : PySem.W.subIn K (.ref C_BadOrder) (.type "BaseException") = some true)
    (etC_BadOrder : PySem.W.typeIn K (.ref C_BadOrder) = some (.type "type"))
    (ehC_BadOrder : PySem.W.hasDictIn K C_BadOrder = true)
    (eiC_BadOrder : PySem.W.isClsIn K C_BadOrder = true)
    (esC_BadOrder : PySem.W.subIn K (.ref C_BadOrder) (.ref C_BadOrder) = some true)
    (eai_BadOrder : PySem.W.findIn K (.ref C_BadOrder) "__init__" = some (some (.ref fI_BadOrder)))
    (eti_BadOrder : PySem.W.typeIn K (.ref fI_BadOrder) = some (.type "function"))
    (eli_BadOrder : K.lookup fI_BadOrder = some ⟨ioc_BadOrder, iod_BadOrder, .func (PySem.W.fnOf "__init__" "BadOrder.__init__" (defArgs (inClass (topS 7) 0)) (defBody (inClass (topS 7) 0)) (defScope (inClass (topS 7) 0)) .none ikV_BadOrder idc_BadOrder ipm_BadOrder ian_BadOrder icd_BadOrder ict_BadOrder), isl_BadOrder⟩)
    (eci_BadOrder : PySem.W.codeIn K icd_BadOrder "BadOrder.__init__" = true)
    (eki_BadOrder : PySem.W.keepIn K (.ref fI_BadOrder) = true)
    (eg_BadTest : PySem.W.nsIn K mainGlobals "BadTest" = some (some (.ref C_BadTest)))
    (ex_BadTest : K.lookup C_BadTest = some (excClassObj nm_BadTest qn_BadTest C_BadTest NS_BadTest bs_BadTest [.type "ValueError", .type "Exception", .type "BaseException", .type "object"] true sn_BadTest sub_BadTest ab_BadTest col_BadTest dd_BadTest m0_BadTest m1_BadTest m2_BadTest m3_BadTest m5_BadTest "ValueError.__new__"))
    (esa_BadTest : PySem.W.findIn K (.ref C_BadTest) "__setattr__" = some (some (.builtin "object.__setattr__")))
    (ega_BadTest : PySem.W.findIn K (.ref C_BadTest) "__getattribute__" = some (some (.builtin "BaseException.__getattribute__")))
    (egg_BadTest : PySem.W.findIn K (.ref C_BadTest) "__getattr__" = some none)
    (enf_BadTest : PySem.W.findIn K (.ref C_BadTest) "test" = some none)
    (ekC_BadTest : PySem.W.keepIn K (.ref C_BadTest) = true)
    (eeC_BadTest : PySem.W.subIn K (.ref C_BadTest) (.type "BaseException") = some true)
    (etC_BadTest : PySem.W.typeIn K (.ref C_BadTest) = some (.type "type"))
    (ehC_BadTest : PySem.W.hasDictIn K C_BadTest = true)
    (eiC_BadTest : PySem.W.isClsIn K C_BadTest = true)
    (esC_BadTest : PySem.W.subIn K (.ref C_BadTest) (.ref C_BadTest) = some true)
    (eai_BadTest : PySem.W.findIn K (.ref C_BadTest) "__init__" = some (some (.ref fI_BadTest)))
    (eti_BadTest : PySem.W.typeIn K (.ref fI_BadTest) = some (.type "function"))
    (eli_BadTest : K.lookup fI_BadTest = some ⟨ioc_BadTest, iod_BadTest, .func (PySem.W.fnOf "__init__" "BadTest.__init__" (defArgs (inClass (topS 8) 0)) (defBody (inClass (topS 8) 0)) (defScope (inClass (topS 8) 0)) .none ikV_BadTest idc_BadTest ipm_BadTest ian_BadTest icd_BadTest ict_BadTest), isl_BadTest⟩)
    (eci_BadTest : PySem.W.codeIn K icd_BadTest "BadTest.__init__" = true)
    (eki_BadTest : PySem.W.keepIn K (.ref fI_BadTest) = true)
    (eg_BadDeed : PySem.W.nsIn K mainGlobals "BadDeed" = some (some (.ref C_BadDeed)))
    (ex_BadDeed : K.lookup C_BadDeed = some (excClassObj nm_BadDeed qn_BadDeed C_BadDeed NS_BadDeed bs_BadDeed [.type "ValueError", .type "Exception", .type "BaseException", .type "object"] true sn_BadDeed sub_BadDeed ab_BadDeed col_BadDeed dd_BadDeed m0_BadDeed m1_BadDeed m2_BadDeed m3_BadDeed m5_BadDeed "ValueError.__new__"))
    (esa_BadDeed : PySem.W.findIn K (.ref C_BadDeed) "__setattr__" = some (some (.builtin "object.__setattr__")))
    (ega_BadDeed : PySem.W.findIn K (.ref C_BadDeed) "__getattribute__" = some (some (.builtin "BaseException.__getattribute__")))
    (egg_BadDeed : PySem.W.findIn K (.ref C_BadDeed) "__getattr__" = some none)
    (enf_BadDeed : PySem.W.findIn K (.ref C_BadDeed) "deed" = some none)
    (ekC_BadDeed : PySem.W.keepIn K (.ref C_BadDeed) = true)
    (eeC_BadDeed : PySem.W.subIn K (.ref C_BadDeed) (.type "BaseException") = some true)
    (etC_BadDeed : PySem.W.typeIn K (.ref C_BadDeed) = some (.type "type"))
    (ehC_BadDeed : PySem.W.hasDictIn K C_BadDeed = true)
    (eiC_BadDeed : PySem.W.isClsIn K C_BadDeed = true)
    (esC_BadDeed : PySem.W.subIn K (.ref C_BadDeed) (.ref C_BadDeed) = some true)
    (eai_BadDeed : PySem.W.findIn K (.ref C_BadDeed) "__init__" = some (some (.ref fI_BadDeed)))
    (eti_BadDeed : PySem.W.typeIn K (.ref fI_BadDeed) = some (.type "function"))
    (eli_BadDeed : K.lookup fI_BadDeed = some ⟨ioc_BadDeed, iod_BadDeed, .func (PySem.W.fnOf "__init__" "BadDeed.__init__" (defArgs (inClass (topS 9) 0)) (defBody (inClass (topS 9) 0)) (defScope (inClass (topS 9) 0)) .none ikV_BadDeed idc_BadDeed ipm_BadDeed ian_BadDeed icd_BadDeed ict_BadDeed), isl_BadDeed⟩)
    (eci_BadDeed : PySem.W.codeIn K icd_BadDeed "BadDeed.__init__" = true)
    (eki_BadDeed : PySem.W.keepIn K (.ref fI_BadDeed) = true)
    (eg_BadRule : PySem.W.nsIn K mainGlobals "BadRule" = some (some (.ref C_BadRule)))
    (ex_BadRule : K.lookup C_BadRule = some (excClassObj nm_BadRule qn_BadRule C_BadRule NS_BadRule bs_BadRule [.type "ValueError", .type "Exception", .type "BaseException", .type "object"] true sn_BadRule sub_BadRule ab_BadRule col_BadRule dd_BadRule m0_BadRule m1_BadRule m2_BadRule m3_BadRule m5_BadRule "ValueError.__new__"))
    (esa_BadRule : PySem.W.findIn K (.ref C_BadRule) "__setattr__" = some (some (.builtin "object.__setattr__")))
    (ega_BadRule : PySem.W.findIn K (.ref C_BadRule) "__getattribute__" = some (some (.builtin "BaseException.__getattribute__")))
    (egg_BadRule : PySem.W.findIn K (.ref C_BadRule) "__getattr__" = some none)
    (enf_BadRule : PySem.W.findIn K (.ref C_BadRule) "rule" = some none)
    (ekC_BadRule : PySem.W.keepIn K (.ref C_BadRule) = true)
    (eeC_BadRule : PySem.W.subIn K (.ref C_BadRule) (.type "BaseException") = some true)
    (etC_BadRule : PySem.W.typeIn K (.ref C_BadRule) = some (.type "type"))
    (ehC_BadRule : PySem.W.hasDictIn K C_BadRule = true)
    (eiC_BadRule : PySem.W.isClsIn K C_BadRule = true)
    (esC_BadRule : PySem.W.subIn K (.ref C_BadRule) (.ref C_BadRule) = some true)
    (eai_BadRule : PySem.W.findIn K (.ref C_BadRule) "__init__" = some (some (.ref fI_BadRule)))
    (eti_BadRule : PySem.W.typeIn K (.ref fI_BadRule) = some (.type "function"))
    (eli_BadRule : K.lookup fI_BadRule = some ⟨ioc_BadRule, iod_BadRule, .func (PySem.W.fnOf "__init__" "BadRule.__init__" (defArgs (inClass (topS 10) 0)) (defBody (inClass (topS 10) 0)) (defScope (inClass (topS 10) 0)) .none ikV_BadRule idc_BadRule ipm_BadRule ian_BadRule icd_BadRule ict_BadRule), isl_BadRule⟩)
    (eci_BadRule : PySem.W.codeIn K icd_BadRule "BadRule.__init__" = true)
    (eki_BadRule : PySem.W.keepIn K (.ref fI_BadRule) = true)
    (eg_BadUse : PySem.W.nsIn K mainGlobals "BadUse" = some (some (.ref C_BadUse)))
    (ex_BadUse : K.lookup C_BadUse = some (excClassObj nm_BadUse qn_BadUse C_BadUse NS_BadUse bs_BadUse [.type "ValueError", .type "Exception", .type "BaseException", .type "object"] true sn_BadUse sub_BadUse ab_BadUse col_BadUse dd_BadUse m0_BadUse m1_BadUse m2_BadUse m3_BadUse m5_BadUse "ValueError.__new__"))
    (esa_BadUse : PySem.W.findIn K (.ref C_BadUse) "__setattr__" = some (some (.builtin "object.__setattr__")))
    (ega_BadUse : PySem.W.findIn K (.ref C_BadUse) "__getattribute__" = some (some (.builtin "BaseException.__getattribute__")))
    (egg_BadUse : PySem.W.findIn K (.ref C_BadUse) "__getattr__" = some none)
    (enf_BadUse : PySem.W.findIn K (.ref C_BadUse) "place" = some none)
    (ekC_BadUse : PySem.W.keepIn K (.ref C_BadUse) = true)
    (eeC_BadUse : PySem.W.subIn K (.ref C_BadUse) (.type "BaseException") = some true)
    (etC_BadUse : PySem.W.typeIn K (.ref C_BadUse) = some (.type "type"))
    (ehC_BadUse : PySem.W.hasDictIn K C_BadUse = true)
    (eiC_BadUse : PySem.W.isClsIn K C_BadUse = true)
    (esC_BadUse : PySem.W.subIn K (.ref C_BadUse) (.ref C_BadUse) = some true)
    (eai_BadUse : PySem.W.findIn K (.ref C_BadUse) "__init__" = some (some (.ref fI_BadUse)))
    (eti_BadUse : PySem.W.typeIn K (.ref fI_BadUse) = some (.type "function"))
    (eli_BadUse : K.lookup fI_BadUse = some ⟨ioc_BadUse, iod_BadUse, .func (PySem.W.fnOf "__init__" "BadUse.__init__" (defArgs (inClass (topS 11) 0)) (defBody (inClass (topS 11) 0)) (defScope (inClass (topS 11) 0)) .none ikV_BadUse idc_BadUse ipm_BadUse ian_BadUse icd_BadUse ict_BadUse), isl_BadUse⟩)
    (eci_BadUse : PySem.W.codeIn K icd_BadUse "BadUse.__init__" = true)
    (eki_BadUse : PySem.W.keepIn K (.ref fI_BadUse) = true)
    (eg_BadWish : PySem.W.nsIn K mainGlobals "BadWish" = some (some (.ref C_BadWish)))
    (ex_BadWish : K.lookup C_BadWish = some (excClassObj nm_BadWish qn_BadWish C_BadWish NS_BadWish bs_BadWish [.type "ValueError", .type "Exception", .type "BaseException", .type "object"] true sn_BadWish sub_BadWish ab_BadWish col_BadWish dd_BadWish m0_BadWish m1_BadWish m2_BadWish m3_BadWish m5_BadWish "ValueError.__new__"))
    (esa_BadWish : PySem.W.findIn K (.ref C_BadWish) "__setattr__" = some (some (.builtin "object.__setattr__")))
    (ega_BadWish : PySem.W.findIn K (.ref C_BadWish) "__getattribute__" = some (some (.builtin "BaseException.__getattribute__")))
    (egg_BadWish : PySem.W.findIn K (.ref C_BadWish) "__getattr__" = some none)
    (enf_BadWish : PySem.W.findIn K (.ref C_BadWish) "word" = some none)
    (ekC_BadWish : PySem.W.keepIn K (.ref C_BadWish) = true)
    (eeC_BadWish : PySem.W.subIn K (.ref C_BadWish) (.type "BaseException") = some true)
    (etC_BadWish : PySem.W.typeIn K (.ref C_BadWish) = some (.type "type"))
    (ehC_BadWish : PySem.W.hasDictIn K C_BadWish = true)
    (eiC_BadWish : PySem.W.isClsIn K C_BadWish = true)
    (esC_BadWish : PySem.W.subIn K (.ref C_BadWish) (.ref C_BadWish) = some true)
    (eai_BadWish : PySem.W.findIn K (.ref C_BadWish) "__init__" = some (some (.ref fI_BadWish)))
    (eti_BadWish : PySem.W.typeIn K (.ref fI_BadWish) = some (.type "function"))
    (eli_BadWish : K.lookup fI_BadWish = some ⟨ioc_BadWish, iod_BadWish, .func (PySem.W.fnOf "__init__" "BadWish.__init__" (defArgs (inClass (topS 12) 0)) (defBody (inClass (topS 12) 0)) (defScope (inClass (topS 12) 0)) .none ikV_BadWish idc_BadWish ipm_BadWish ian_BadWish icd_BadWish ict_BadWish), isl_BadWish⟩)
    (eci_BadWish : PySem.W.codeIn K icd_BadWish "BadWish.__init__" = true)
    (eki_BadWish : PySem.W.keepIn K (.ref fI_BadWish) = true)
    (eg_BadOption : PySem.W.nsIn K mainGlobals "BadOption" = some (some (.ref C_BadOption)))
    (ex_BadOption : K.lookup C_BadOption = some (excClassObj nm_BadOption qn_BadOption C_BadOption NS_BadOption bs_BadOption [.type "ValueError", .type "Exception", .type "BaseException", .type "object"] true sn_BadOption sub_BadOption ab_BadOption col_BadOption dd_BadOption m0_BadOption m1_BadOption m2_BadOption m3_BadOption m5_BadOption "ValueError.__new__"))
    (esa_BadOption : PySem.W.findIn K (.ref C_BadOption) "__setattr__" = some (some (.builtin "object.__setattr__")))
    (ega_BadOption : PySem.W.findIn K (.ref C_BadOption) "__getattribute__" = some (some (.builtin "BaseException.__getattribute__")))
    (egg_BadOption : PySem.W.findIn K (.ref C_BadOption) "__getattr__" = some none)
    (enf_BadOption : PySem.W.findIn K (.ref C_BadOption) "option" = some none)
    (ekC_BadOption : PySem.W.keepIn K (.ref C_BadOption) = true)
    (eeC_BadOption : PySem.W.subIn K (.ref C_BadOption) (.type "BaseException") = some true)
    (etC_BadOption : PySem.W.typeIn K (.ref C_BadOption) = some (.type "type"))
    (ehC_BadOption : PySem.W.hasDictIn K C_BadOption = true)
    (eiC_BadOption : PySem.W.isClsIn K C_BadOption = true)
    (esC_BadOption : PySem.W.subIn K (.ref C_BadOption) (.ref C_BadOption) = some true)
    (eai_BadOption : PySem.W.findIn K (.ref C_BadOption) "__init__" = some (some (.ref fI_BadOption)))
    (eti_BadOption : PySem.W.typeIn K (.ref fI_BadOption) = some (.type "function"))
    (eli_BadOption : K.lookup fI_BadOption = some ⟨ioc_BadOption, iod_BadOption, .func (PySem.W.fnOf "__init__" "BadOption.__init__" (defArgs (inClass (topS 13) 0)) (defBody (inClass (topS 13) 0)) (defScope (inClass (topS 13) 0)) .none ikV_BadOption idc_BadOption ipm_BadOption ian_BadOption icd_BadOption ict_BadOption), isl_BadOption⟩)
    (eci_BadOption : PySem.W.codeIn K icd_BadOption "BadOption.__init__" = true)
    (eki_BadOption : PySem.W.keepIn K (.ref fI_BadOption) = true)
    (eg_BadSweep : PySem.W.nsIn K mainGlobals "BadSweep" = some (some (.ref C_BadSweep)))
    (ex_BadSweep : K.lookup C_BadSweep = some (excClassObj nm_BadSweep qn_BadSweep C_BadSweep NS_BadSweep bs_BadSweep [.type "ValueError", .type "Exception", .type "BaseException", .type "object"] true sn_BadSweep sub_BadSweep ab_BadSweep col_BadSweep dd_BadSweep m0_BadSweep m1_BadSweep m2_BadSweep m3_BadSweep m5_BadSweep "ValueError.__new__"))
    (esa_BadSweep : PySem.W.findIn K (.ref C_BadSweep) "__setattr__" = some (some (.builtin "object.__setattr__")))
    (ega_BadSweep : PySem.W.findIn K (.ref C_BadSweep) "__getattribute__" = some (some (.builtin "BaseException.__getattribute__")))
    (egg_BadSweep : PySem.W.findIn K (.ref C_BadSweep) "__getattr__" = some none)
    (enf_BadSweep : PySem.W.findIn K (.ref C_BadSweep) "word" = some none)
    (ekC_BadSweep : PySem.W.keepIn K (.ref C_BadSweep) = true)
    (eeC_BadSweep : PySem.W.subIn K (.ref C_BadSweep) (.type "BaseException") = some true)
    (etC_BadSweep : PySem.W.typeIn K (.ref C_BadSweep) = some (.type "type"))
    (ehC_BadSweep : PySem.W.hasDictIn K C_BadSweep = true)
    (eiC_BadSweep : PySem.W.isClsIn K C_BadSweep = true)
    (esC_BadSweep : PySem.W.subIn K (.ref C_BadSweep) (.ref C_BadSweep) = some true)
    (eai_BadSweep : PySem.W.findIn K (.ref C_BadSweep) "__init__" = some (some (.ref fI_BadSweep)))
    (eti_BadSweep : PySem.W.typeIn K (.ref fI_BadSweep) = some (.type "function"))
    (eli_BadSweep : K.lookup fI_BadSweep = some ⟨ioc_BadSweep, iod_BadSweep, .func (PySem.W.fnOf "__init__" "BadSweep.__init__" (defArgs (inClass (topS 14) 0)) (defBody (inClass (topS 14) 0)) (defScope (inClass (topS 14) 0)) .none ikV_BadSweep idc_BadSweep ipm_BadSweep ian_BadSweep icd_BadSweep ict_BadSweep), isl_BadSweep⟩)
    (eci_BadSweep : PySem.W.codeIn K icd_BadSweep "BadSweep.__init__" = true)
    (eki_BadSweep : PySem.W.keepIn K (.ref fI_BadSweep) = true)
    (eg_BadLevel : PySem.W.nsIn K mainGlobals "BadLevel" = some (some (.ref C_BadLevel)))
    (ex_BadLevel : K.lookup C_BadLevel = some (excClassObj nm_BadLevel qn_BadLevel C_BadLevel NS_BadLevel bs_BadLevel [.type "ValueError", .type "Exception", .type "BaseException", .type "object"] true sn_BadLevel sub_BadLevel ab_BadLevel col_BadLevel dd_BadLevel m0_BadLevel m1_BadLevel m2_BadLevel m3_BadLevel m5_BadLevel "ValueError.__new__"))
    (esa_BadLevel : PySem.W.findIn K (.ref C_BadLevel) "__setattr__" = some (some (.builtin "object.__setattr__")))
    (ega_BadLevel : PySem.W.findIn K (.ref C_BadLevel) "__getattribute__" = some (some (.builtin "BaseException.__getattribute__")))
    (egg_BadLevel : PySem.W.findIn K (.ref C_BadLevel) "__getattr__" = some none)
    (enf_BadLevel : PySem.W.findIn K (.ref C_BadLevel) "level" = some none)
    (ekC_BadLevel : PySem.W.keepIn K (.ref C_BadLevel) = true)
    (eeC_BadLevel : PySem.W.subIn K (.ref C_BadLevel) (.type "BaseException") = some true)
    (etC_BadLevel : PySem.W.typeIn K (.ref C_BadLevel) = some (.type "type"))
    (ehC_BadLevel : PySem.W.hasDictIn K C_BadLevel = true)
    (eiC_BadLevel : PySem.W.isClsIn K C_BadLevel = true)
    (esC_BadLevel : PySem.W.subIn K (.ref C_BadLevel) (.ref C_BadLevel) = some true)
    (eai_BadLevel : PySem.W.findIn K (.ref C_BadLevel) "__init__" = some (some (.ref fI_BadLevel)))
    (eti_BadLevel : PySem.W.typeIn K (.ref fI_BadLevel) = some (.type "function"))
    (eli_BadLevel : K.lookup fI_BadLevel = some ⟨ioc_BadLevel, iod_BadLevel, .func (PySem.W.fnOf "__init__" "BadLevel.__init__" (defArgs (inClass (topS 15) 0)) (defBody (inClass (topS 15) 0)) (defScope (inClass (topS 15) 0)) .none ikV_BadLevel idc_BadLevel ipm_BadLevel ian_BadLevel icd_BadLevel ict_BadLevel), isl_BadLevel⟩)
    (eci_BadLevel : PySem.W.codeIn K icd_BadLevel "BadLevel.__init__" = true)
    (eki_BadLevel : PySem.W.keepIn K (.ref fI_BadLevel) = true)
    (eg_BadDay : PySem.W.nsIn K mainGlobals "BadDay" = some (some (.ref C_BadDay)))
    (ex_BadDay : K.lookup C_BadDay = some (excClassObj nm_BadDay qn_BadDay C_BadDay NS_BadDay bs_BadDay [.type "ValueError", .type "Exception", .type "BaseException", .type "object"] true sn_BadDay sub_BadDay ab_BadDay col_BadDay dd_BadDay m0_BadDay m1_BadDay m2_BadDay m3_BadDay m5_BadDay "ValueError.__new__"))
    (esa_BadDay : PySem.W.findIn K (.ref C_BadDay) "__setattr__" = some (some (.builtin "object.__setattr__")))
    (ega_BadDay : PySem.W.findIn K (.ref C_BadDay) "__getattribute__" = some (some (.builtin "BaseException.__getattribute__")))
    (egg_BadDay : PySem.W.findIn K (.ref C_BadDay) "__getattr__" = some none)
    (enf_BadDay : PySem.W.findIn K (.ref C_BadDay) "day" = some none)
    (ekC_BadDay : PySem.W.keepIn K (.ref C_BadDay) = true)
    (eeC_BadDay : PySem.W.subIn K (.ref C_BadDay) (.type "BaseException") = some true)
    (etC_BadDay : PySem.W.typeIn K (.ref C_BadDay) = some (.type "type"))
    (ehC_BadDay : PySem.W.hasDictIn K C_BadDay = true)
    (eiC_BadDay : PySem.W.isClsIn K C_BadDay = true)
    (esC_BadDay : PySem.W.subIn K (.ref C_BadDay) (.ref C_BadDay) = some true)
    (eai_BadDay : PySem.W.findIn K (.ref C_BadDay) "__init__" = some (some (.ref fI_BadDay)))
    (eti_BadDay : PySem.W.typeIn K (.ref fI_BadDay) = some (.type "function"))
    (eli_BadDay : K.lookup fI_BadDay = some ⟨ioc_BadDay, iod_BadDay, .func (PySem.W.fnOf "__init__" "BadDay.__init__" (defArgs (inClass (topS 16) 0)) (defBody (inClass (topS 16) 0)) (defScope (inClass (topS 16) 0)) .none ikV_BadDay idc_BadDay ipm_BadDay ian_BadDay icd_BadDay ict_BadDay), isl_BadDay⟩)
    (eci_BadDay : PySem.W.codeIn K icd_BadDay "BadDay.__init__" = true)
    (eki_BadDay : PySem.W.keepIn K (.ref fI_BadDay) = true)
    (eg_BadColumns : PySem.W.nsIn K mainGlobals "BadColumns" = some (some (.ref C_BadColumns)))
    (ex_BadColumns : K.lookup C_BadColumns = some (excClassObj nm_BadColumns qn_BadColumns C_BadColumns NS_BadColumns bs_BadColumns [.type "ValueError", .type "Exception", .type "BaseException", .type "object"] true sn_BadColumns sub_BadColumns ab_BadColumns col_BadColumns dd_BadColumns m0_BadColumns m1_BadColumns m2_BadColumns m3_BadColumns m5_BadColumns "ValueError.__new__"))
    (esa_BadColumns : PySem.W.findIn K (.ref C_BadColumns) "__setattr__" = some (some (.builtin "object.__setattr__")))
    (ega_BadColumns : PySem.W.findIn K (.ref C_BadColumns) "__getattribute__" = some (some (.builtin "BaseException.__getattribute__")))
    (egg_BadColumns : PySem.W.findIn K (.ref C_BadColumns) "__getattr__" = some none)
    (enf_BadColumns : PySem.W.findIn K (.ref C_BadColumns) "columns" = some none)
    (ekC_BadColumns : PySem.W.keepIn K (.ref C_BadColumns) = true)
    (eeC_BadColumns : PySem.W.subIn K (.ref C_BadColumns) (.type "BaseException") = some true)
    (etC_BadColumns : PySem.W.typeIn K (.ref C_BadColumns) = some (.type "type"))
    (ehC_BadColumns : PySem.W.hasDictIn K C_BadColumns = true)
    (eiC_BadColumns : PySem.W.isClsIn K C_BadColumns = true)
    (esC_BadColumns : PySem.W.subIn K (.ref C_BadColumns) (.ref C_BadColumns) = some true)
    (eai_BadColumns : PySem.W.findIn K (.ref C_BadColumns) "__init__" = some (some (.ref fI_BadColumns)))
    (eti_BadColumns : PySem.W.typeIn K (.ref fI_BadColumns) = some (.type "function"))
    (eli_BadColumns : K.lookup fI_BadColumns = some ⟨ioc_BadColumns, iod_BadColumns, .func (PySem.W.fnOf "__init__" "BadColumns.__init__" (defArgs (inClass (topS 17) 0)) (defBody (inClass (topS 17) 0)) (defScope (inClass (topS 17) 0)) .none ikV_BadColumns idc_BadColumns ipm_BadColumns ian_BadColumns icd_BadColumns ict_BadColumns), isl_BadColumns⟩)
    (eci_BadColumns : PySem.W.codeIn K icd_BadColumns "BadColumns.__init__" = true)
    (eki_BadColumns : PySem.W.keepIn K (.ref fI_BadColumns) = true)
    (eg_BadText : PySem.W.nsIn K mainGlobals "BadText" = some (some (.ref C_BadText)))
    (ex_BadText : K.lookup C_BadText = some (excClassObj nm_BadText qn_BadText C_BadText NS_BadText bs_BadText [.type "ValueError", .type "Exception", .type "BaseException", .type "object"] true sn_BadText sub_BadText ab_BadText col_BadText dd_BadText m0_BadText m1_BadText m2_BadText m3_BadText m5_BadText "ValueError.__new__"))
    (esa_BadText : PySem.W.findIn K (.ref C_BadText) "__setattr__" = some (some (.builtin "object.__setattr__")))
    (ega_BadText : PySem.W.findIn K (.ref C_BadText) "__getattribute__" = some (some (.builtin "BaseException.__getattribute__")))
    (egg_BadText : PySem.W.findIn K (.ref C_BadText) "__getattr__" = some none)
    (enf_BadText : PySem.W.findIn K (.ref C_BadText) "line" = some none)
    (ekC_BadText : PySem.W.keepIn K (.ref C_BadText) = true)
    (eeC_BadText : PySem.W.subIn K (.ref C_BadText) (.type "BaseException") = some true)
    (etC_BadText : PySem.W.typeIn K (.ref C_BadText) = some (.type "type"))
    (ehC_BadText : PySem.W.hasDictIn K C_BadText = true)
    (eiC_BadText : PySem.W.isClsIn K C_BadText = true)
    (esC_BadText : PySem.W.subIn K (.ref C_BadText) (.ref C_BadText) = some true)
    (eai_BadText : PySem.W.findIn K (.ref C_BadText) "__init__" = some (some (.ref fI_BadText)))
    (eti_BadText : PySem.W.typeIn K (.ref fI_BadText) = some (.type "function"))
    (eli_BadText : K.lookup fI_BadText = some ⟨ioc_BadText, iod_BadText, .func (PySem.W.fnOf "__init__" "BadText.__init__" (defArgs (inClass (topS 18) 0)) (defBody (inClass (topS 18) 0)) (defScope (inClass (topS 18) 0)) .none ikV_BadText idc_BadText ipm_BadText ian_BadText icd_BadText ict_BadText), isl_BadText⟩)
    (eci_BadText : PySem.W.codeIn K icd_BadText "BadText.__init__" = true)
    (eki_BadText : PySem.W.keepIn K (.ref fI_BadText) = true)
    (eg_BadCommand : PySem.W.nsIn K mainGlobals "BadCommand" = some (some (.ref C_BadCommand)))
    (ex_BadCommand : K.lookup C_BadCommand = some (excClassObj nm_BadCommand qn_BadCommand C_BadCommand NS_BadCommand bs_BadCommand [.type "ValueError", .type "Exception", .type "BaseException", .type "object"] true sn_BadCommand sub_BadCommand ab_BadCommand col_BadCommand dd_BadCommand m0_BadCommand m1_BadCommand m2_BadCommand m3_BadCommand m5_BadCommand "ValueError.__new__"))
    (esa_BadCommand : PySem.W.findIn K (.ref C_BadCommand) "__setattr__" = some (some (.builtin "object.__setattr__")))
    (ega_BadCommand : PySem.W.findIn K (.ref C_BadCommand) "__getattribute__" = some (some (.builtin "BaseException.__getattribute__")))
    (egg_BadCommand : PySem.W.findIn K (.ref C_BadCommand) "__getattr__" = some none)
    (enf_BadCommand : PySem.W.findIn K (.ref C_BadCommand) "command" = some none)
    (ekC_BadCommand : PySem.W.keepIn K (.ref C_BadCommand) = true)
    (eeC_BadCommand : PySem.W.subIn K (.ref C_BadCommand) (.type "BaseException") = some true)
    (etC_BadCommand : PySem.W.typeIn K (.ref C_BadCommand) = some (.type "type"))
    (ehC_BadCommand : PySem.W.hasDictIn K C_BadCommand = true)
    (eiC_BadCommand : PySem.W.isClsIn K C_BadCommand = true)
    (esC_BadCommand : PySem.W.subIn K (.ref C_BadCommand) (.ref C_BadCommand) = some true)
    (eai_BadCommand : PySem.W.findIn K (.ref C_BadCommand) "__init__" = some (some (.ref fI_BadCommand)))
    (eti_BadCommand : PySem.W.typeIn K (.ref fI_BadCommand) = some (.type "function"))
    (eli_BadCommand : K.lookup fI_BadCommand = some ⟨ioc_BadCommand, iod_BadCommand, .func (PySem.W.fnOf "__init__" "BadCommand.__init__" (defArgs (inClass (topS 19) 0)) (defBody (inClass (topS 19) 0)) (defScope (inClass (topS 19) 0)) .none ikV_BadCommand idc_BadCommand ipm_BadCommand ian_BadCommand icd_BadCommand ict_BadCommand), isl_BadCommand⟩)
    (eci_BadCommand : PySem.W.codeIn K icd_BadCommand "BadCommand.__init__" = true)
    (eki_BadCommand : PySem.W.keepIn K (.ref fI_BadCommand) = true)
    (eg_NoOption : PySem.W.nsIn K mainGlobals "NoOption" = some (some (.ref C_NoOption)))
    (ex_NoOption : K.lookup C_NoOption = some (excClassObj nm_NoOption qn_NoOption C_NoOption NS_NoOption bs_NoOption [.type "LookupError", .type "Exception", .type "BaseException", .type "object"] true sn_NoOption sub_NoOption ab_NoOption col_NoOption dd_NoOption m0_NoOption m1_NoOption m2_NoOption m3_NoOption m5_NoOption "LookupError.__new__"))
    (esa_NoOption : PySem.W.findIn K (.ref C_NoOption) "__setattr__" = some (some (.builtin "object.__setattr__")))
    (ega_NoOption : PySem.W.findIn K (.ref C_NoOption) "__getattribute__" = some (some (.builtin "BaseException.__getattribute__")))
    (egg_NoOption : PySem.W.findIn K (.ref C_NoOption) "__getattr__" = some none)
    (enf_NoOption : PySem.W.findIn K (.ref C_NoOption) "option" = some none)
    (ekC_NoOption : PySem.W.keepIn K (.ref C_NoOption) = true)
    (eeC_NoOption : PySem.W.subIn K (.ref C_NoOption) (.type "BaseException") = some true)
    (etC_NoOption : PySem.W.typeIn K (.ref C_NoOption) = some (.type "type"))
    (ehC_NoOption : PySem.W.hasDictIn K C_NoOption = true)
    (eiC_NoOption : PySem.W.isClsIn K C_NoOption = true)
    (esC_NoOption : PySem.W.subIn K (.ref C_NoOption) (.ref C_NoOption) = some true)
    (eai_NoOption : PySem.W.findIn K (.ref C_NoOption) "__init__" = some (some (.ref fI_NoOption)))
    (eti_NoOption : PySem.W.typeIn K (.ref fI_NoOption) = some (.type "function"))
    (eli_NoOption : K.lookup fI_NoOption = some ⟨ioc_NoOption, iod_NoOption, .func (PySem.W.fnOf "__init__" "NoOption.__init__" (defArgs (inClass (topS 20) 0)) (defBody (inClass (topS 20) 0)) (defScope (inClass (topS 20) 0)) .none ikV_NoOption idc_NoOption ipm_NoOption ian_NoOption icd_NoOption ict_NoOption), isl_NoOption⟩)
    (eci_NoOption : PySem.W.codeIn K icd_NoOption "NoOption.__init__" = true)
    (eki_NoOption : PySem.W.keepIn K (.ref fI_NoOption) = true)
    (eg_NoRow : PySem.W.nsIn K mainGlobals "NoRow" = some (some (.ref C_NoRow)))
    (ex_NoRow : K.lookup C_NoRow = some (excClassObj nm_NoRow qn_NoRow C_NoRow NS_NoRow bs_NoRow [.type "LookupError", .type "Exception", .type "BaseException", .type "object"] true sn_NoRow sub_NoRow ab_NoRow col_NoRow dd_NoRow m0_NoRow m1_NoRow m2_NoRow m3_NoRow m5_NoRow "LookupError.__new__"))
    (esa_NoRow : PySem.W.findIn K (.ref C_NoRow) "__setattr__" = some (some (.builtin "object.__setattr__")))
    (ega_NoRow : PySem.W.findIn K (.ref C_NoRow) "__getattribute__" = some (some (.builtin "BaseException.__getattribute__")))
    (egg_NoRow : PySem.W.findIn K (.ref C_NoRow) "__getattr__" = some none)
    (enf_NoRow : PySem.W.findIn K (.ref C_NoRow) "row" = some none)
    (ekC_NoRow : PySem.W.keepIn K (.ref C_NoRow) = true)
    (eeC_NoRow : PySem.W.subIn K (.ref C_NoRow) (.type "BaseException") = some true)
    (etC_NoRow : PySem.W.typeIn K (.ref C_NoRow) = some (.type "type"))
    (ehC_NoRow : PySem.W.hasDictIn K C_NoRow = true)
    (eiC_NoRow : PySem.W.isClsIn K C_NoRow = true)
    (esC_NoRow : PySem.W.subIn K (.ref C_NoRow) (.ref C_NoRow) = some true)
    (eai_NoRow : PySem.W.findIn K (.ref C_NoRow) "__init__" = some (some (.ref fI_NoRow)))
    (eti_NoRow : PySem.W.typeIn K (.ref fI_NoRow) = some (.type "function"))
    (eli_NoRow : K.lookup fI_NoRow = some ⟨ioc_NoRow, iod_NoRow, .func (PySem.W.fnOf "__init__" "NoRow.__init__" (defArgs (inClass (topS 21) 0)) (defBody (inClass (topS 21) 0)) (defScope (inClass (topS 21) 0)) .none ikV_NoRow idc_NoRow ipm_NoRow ian_NoRow icd_NoRow ict_NoRow), isl_NoRow⟩)
    (eci_NoRow : PySem.W.codeIn K icd_NoRow "NoRow.__init__" = true)
    (eki_NoRow : PySem.W.keepIn K (.ref fI_NoRow) = true)
    (eg_NoSpan : PySem.W.nsIn K mainGlobals "NoSpan" = some (some (.ref C_NoSpan)))
    (ex_NoSpan : K.lookup C_NoSpan = some (excClassObj nm_NoSpan qn_NoSpan C_NoSpan NS_NoSpan bs_NoSpan [.type "LookupError", .type "Exception", .type "BaseException", .type "object"] true sn_NoSpan sub_NoSpan ab_NoSpan col_NoSpan dd_NoSpan m0_NoSpan m1_NoSpan m2_NoSpan m3_NoSpan m5_NoSpan "LookupError.__new__"))
    (esa_NoSpan : PySem.W.findIn K (.ref C_NoSpan) "__setattr__" = some (some (.builtin "object.__setattr__")))
    (ega_NoSpan : PySem.W.findIn K (.ref C_NoSpan) "__getattribute__" = some (some (.builtin "BaseException.__getattribute__")))
    (egg_NoSpan : PySem.W.findIn K (.ref C_NoSpan) "__getattr__" = some none)
    (enf_NoSpan : PySem.W.findIn K (.ref C_NoSpan) "index" = some none)
    (ekC_NoSpan : PySem.W.keepIn K (.ref C_NoSpan) = true)
    (eeC_NoSpan : PySem.W.subIn K (.ref C_NoSpan) (.type "BaseException") = some true)
    (etC_NoSpan : PySem.W.typeIn K (.ref C_NoSpan) = some (.type "type"))
    (ehC_NoSpan : PySem.W.hasDictIn K C_NoSpan = true)
    (eiC_NoSpan : PySem.W.isClsIn K C_NoSpan = true)
    (esC_NoSpan : PySem.W.subIn K (.ref C_NoSpan) (.ref C_NoSpan) = some true)
    (eai_NoSpan : PySem.W.findIn K (.ref C_NoSpan) "__init__" = some (some (.ref fI_NoSpan)))
    (eti_NoSpan : PySem.W.typeIn K (.ref fI_NoSpan) = some (.type "function"))
    (eli_NoSpan : K.lookup fI_NoSpan = some ⟨ioc_NoSpan, iod_NoSpan, .func (PySem.W.fnOf "__init__" "NoSpan.__init__" (defArgs (inClass (topS 22) 0)) (defBody (inClass (topS 22) 0)) (defScope (inClass (topS 22) 0)) .none ikV_NoSpan idc_NoSpan ipm_NoSpan ian_NoSpan icd_NoSpan ict_NoSpan), isl_NoSpan⟩)
    (eci_NoSpan : PySem.W.codeIn K icd_NoSpan "NoSpan.__init__" = true)
    (eki_NoSpan : PySem.W.keepIn K (.ref fI_NoSpan) = true)
    (eg_NoName : PySem.W.nsIn K mainGlobals "NoName" = some (some (.ref C_NoName)))
    (ex_NoName : K.lookup C_NoName = some (excClassObj nm_NoName qn_NoName C_NoName NS_NoName bs_NoName [.type "LookupError", .type "Exception", .type "BaseException", .type "object"] true sn_NoName sub_NoName ab_NoName col_NoName dd_NoName m0_NoName m1_NoName m2_NoName m3_NoName m5_NoName "LookupError.__new__"))
    (esa_NoName : PySem.W.findIn K (.ref C_NoName) "__setattr__" = some (some (.builtin "object.__setattr__")))
    (ega_NoName : PySem.W.findIn K (.ref C_NoName) "__getattribute__" = some (some (.builtin "BaseException.__getattribute__")))
    (egg_NoName : PySem.W.findIn K (.ref C_NoName) "__getattr__" = some none)
    (enf_NoName : PySem.W.findIn K (.ref C_NoName) "name" = some none)
    (ekC_NoName : PySem.W.keepIn K (.ref C_NoName) = true)
    (eeC_NoName : PySem.W.subIn K (.ref C_NoName) (.type "BaseException") = some true)
    (etC_NoName : PySem.W.typeIn K (.ref C_NoName) = some (.type "type"))
    (ehC_NoName : PySem.W.hasDictIn K C_NoName = true)
    (eiC_NoName : PySem.W.isClsIn K C_NoName = true)
    (esC_NoName : PySem.W.subIn K (.ref C_NoName) (.ref C_NoName) = some true)
    (eai_NoName : PySem.W.findIn K (.ref C_NoName) "__init__" = some (some (.ref fI_NoName)))
    (eti_NoName : PySem.W.typeIn K (.ref fI_NoName) = some (.type "function"))
    (eli_NoName : K.lookup fI_NoName = some ⟨ioc_NoName, iod_NoName, .func (PySem.W.fnOf "__init__" "NoName.__init__" (defArgs (inClass (topS 23) 0)) (defBody (inClass (topS 23) 0)) (defScope (inClass (topS 23) 0)) .none ikV_NoName idc_NoName ipm_NoName ian_NoName icd_NoName ict_NoName), isl_NoName⟩)
    (eci_NoName : PySem.W.codeIn K icd_NoName "NoName.__init__" = true)
    (eki_NoName : PySem.W.keepIn K (.ref fI_NoName) = true)
    (eg_TooMany : PySem.W.nsIn K mainGlobals "TooMany" = some (some (.ref C_TooMany)))
    (ex_TooMany : K.lookup C_TooMany = some (excClassObj nm_TooMany qn_TooMany C_TooMany NS_TooMany bs_TooMany [.type "OverflowError", .type "ArithmeticError", .type "Exception", .type "BaseException", .type "object"] true sn_TooMany sub_TooMany ab_TooMany col_TooMany dd_TooMany m0_TooMany m1_TooMany m2_TooMany m3_TooMany m5_TooMany "OverflowError.__new__"))
    (esa_TooMany : PySem.W.findIn K (.ref C_TooMany) "__setattr__" = some (some (.builtin "object.__setattr__")))
    (ega_TooMany : PySem.W.findIn K (.ref C_TooMany) "__getattribute__" = some (some (.builtin "BaseException.__getattribute__")))
    (egg_TooMany : PySem.W.findIn K (.ref C_TooMany) "__getattr__" = some none)
    (enf_TooMany : PySem.W.findIn K (.ref C_TooMany) "limit" = some none)
    (ekC_TooMany : PySem.W.keepIn K (.ref C_TooMany) = true)
    (eeC_TooMany : PySem.W.subIn K (.ref C_TooMany) (.type "BaseException") = some true)
    (etC_TooMany : PySem.W.typeIn K (.ref C_TooMany) = some (.type "type"))
    (ehC_TooMany : PySem.W.hasDictIn K C_TooMany = true)
    (eiC_TooMany : PySem.W.isClsIn K C_TooMany = true)
    (esC_TooMany : PySem.W.subIn K (.ref C_TooMany) (.ref C_TooMany) = some true)
    (eai_TooMany : PySem.W.findIn K (.ref C_TooMany) "__init__" = some (some (.ref fI_TooMany)))
    (eti_TooMany : PySem.W.typeIn K (.ref fI_TooMany) = some (.type "function"))
    (eli_TooMany : K.lookup fI_TooMany = some ⟨ioc_TooMany, iod_TooMany, .func (PySem.W.fnOf "__init__" "TooMany.__init__" (defArgs (inClass (topS 24) 0)) (defBody (inClass (topS 24) 0)) (defScope (inClass (topS 24) 0)) .none ikV_TooMany idc_TooMany ipm_TooMany ian_TooMany icd_TooMany ict_TooMany), isl_TooMany⟩)
    (eci_TooMany : PySem.W.codeIn K icd_TooMany "TooMany.__init__" = true)
    (eki_TooMany : PySem.W.keepIn K (.ref fI_TooMany) = true)
    (eg_TooWide : PySem.W.nsIn K mainGlobals "TooWide" = some (some (.ref C_TooWide)))
    (ex_TooWide : K.lookup C_TooWide = some (excClassObj nm_TooWide qn_TooWide C_TooWide NS_TooWide bs_TooWide [.type "OverflowError", .type "ArithmeticError", .type "Exception", .type "BaseException", .type "object"] true sn_TooWide sub_TooWide ab_TooWide col_TooWide dd_TooWide m0_TooWide m1_TooWide m2_TooWide m3_TooWide m5_TooWide "OverflowError.__new__"))
    (esa_TooWide : PySem.W.findIn K (.ref C_TooWide) "__setattr__" = some (some (.builtin "object.__setattr__")))
    (ega_TooWide : PySem.W.findIn K (.ref C_TooWide) "__getattribute__" = some (some (.builtin "BaseException.__getattribute__")))
    (egg_TooWide : PySem.W.findIn K (.ref C_TooWide) "__getattr__" = some none)
    (enf_TooWide : PySem.W.findIn K (.ref C_TooWide) "limit" = some none)
    (ekC_TooWide : PySem.W.keepIn K (.ref C_TooWide) = true)
    (eeC_TooWide : PySem.W.subIn K (.ref C_TooWide) (.type "BaseException") = some true)
    (etC_TooWide : PySem.W.typeIn K (.ref C_TooWide) = some (.type "type"))
    (ehC_TooWide : PySem.W.hasDictIn K C_TooWide = true)
    (eiC_TooWide : PySem.W.isClsIn K C_TooWide = true)
    (esC_TooWide : PySem.W.subIn K (.ref C_TooWide) (.ref C_TooWide) = some true)
    (eai_TooWide : PySem.W.findIn K (.ref C_TooWide) "__init__" = some (some (.ref fI_TooWide)))
    (eti_TooWide : PySem.W.typeIn K (.ref fI_TooWide) = some (.type "function"))
    (eli_TooWide : K.lookup fI_TooWide = some ⟨ioc_TooWide, iod_TooWide, .func (PySem.W.fnOf "__init__" "TooWide.__init__" (defArgs (inClass (topS 25) 0)) (defBody (inClass (topS 25) 0)) (defScope (inClass (topS 25) 0)) .none ikV_TooWide idc_TooWide ipm_TooWide ian_TooWide icd_TooWide ict_TooWide), isl_TooWide⟩)
    (eci_TooWide : PySem.W.codeIn K icd_TooWide "TooWide.__init__" = true)
    (eki_TooWide : PySem.W.keepIn K (.ref fI_TooWide) = true)
    (eg_TooFar : PySem.W.nsIn K mainGlobals "TooFar" = some (some (.ref C_TooFar)))
    (ex_TooFar : K.lookup C_TooFar = some (excClassObj nm_TooFar qn_TooFar C_TooFar NS_TooFar bs_TooFar [.type "OverflowError", .type "ArithmeticError", .type "Exception", .type "BaseException", .type "object"] true sn_TooFar sub_TooFar ab_TooFar col_TooFar dd_TooFar m0_TooFar m1_TooFar m2_TooFar m3_TooFar m5_TooFar "OverflowError.__new__"))
    (esa_TooFar : PySem.W.findIn K (.ref C_TooFar) "__setattr__" = some (some (.builtin "object.__setattr__")))
    (ega_TooFar : PySem.W.findIn K (.ref C_TooFar) "__getattribute__" = some (some (.builtin "BaseException.__getattribute__")))
    (egg_TooFar : PySem.W.findIn K (.ref C_TooFar) "__getattr__" = some none)
    (enf_TooFar : PySem.W.findIn K (.ref C_TooFar) "edge" = some none)
    (ekC_TooFar : PySem.W.keepIn K (.ref C_TooFar) = true)
    (eeC_TooFar : PySem.W.subIn K (.ref C_TooFar) (.type "BaseException") = some true)
    (etC_TooFar : PySem.W.typeIn K (.ref C_TooFar) = some (.type "type"))
    (ehC_TooFar : PySem.W.hasDictIn K C_TooFar = true)
    (eiC_TooFar : PySem.W.isClsIn K C_TooFar = true)
    (esC_TooFar : PySem.W.subIn K (.ref C_TooFar) (.ref C_TooFar) = some true)
    (eai_TooFar : PySem.W.findIn K (.ref C_TooFar) "__init__" = some (some (.ref fI_TooFar)))
    (eti_TooFar : PySem.W.typeIn K (.ref fI_TooFar) = some (.type "function"))
    (eli_TooFar : K.lookup fI_TooFar = some ⟨ioc_TooFar, iod_TooFar, .func (PySem.W.fnOf "__init__" "TooFar.__init__" (defArgs (inClass (topS 26) 0)) (defBody (inClass (topS 26) 0)) (defScope (inClass (topS 26) 0)) .none ikV_TooFar idc_TooFar ipm_TooFar ian_TooFar icd_TooFar ict_TooFar), isl_TooFar⟩)
    (eci_TooFar : PySem.W.codeIn K icd_TooFar "TooFar.__init__" = true)
    (eki_TooFar : PySem.W.keepIn K (.ref fI_TooFar) = true)
    (eg_Endless : PySem.W.nsIn K mainGlobals "Endless" = some (some (.ref C_Endless)))
    (ex_Endless : K.lookup C_Endless = some (excClassObj nm_Endless qn_Endless C_Endless NS_Endless bs_Endless [.type "OverflowError", .type "ArithmeticError", .type "Exception", .type "BaseException", .type "object"] true sn_Endless sub_Endless ab_Endless col_Endless dd_Endless m0_Endless m1_Endless m2_Endless m3_Endless m5_Endless "OverflowError.__new__"))
    (esa_Endless : PySem.W.findIn K (.ref C_Endless) "__setattr__" = some (some (.builtin "object.__setattr__")))
    (ega_Endless : PySem.W.findIn K (.ref C_Endless) "__getattribute__" = some (some (.builtin "BaseException.__getattribute__")))
    (egg_Endless : PySem.W.findIn K (.ref C_Endless) "__getattr__" = some none)
    (enf_Endless : PySem.W.findIn K (.ref C_Endless) "span" = some none)
    (ekC_Endless : PySem.W.keepIn K (.ref C_Endless) = true)
    (eeC_Endless : PySem.W.subIn K (.ref C_Endless) (.type "BaseException") = some true)
    (etC_Endless : PySem.W.typeIn K (.ref C_Endless) = some (.type "type"))
    (ehC_Endless : PySem.W.hasDictIn K C_Endless = true)
    (eiC_Endless : PySem.W.isClsIn K C_Endless = true)
    (esC_Endless : PySem.W.subIn K (.ref C_Endless) (.ref C_Endless) = some true)
    (eai_Endless : PySem.W.findIn K (.ref C_Endless) "__init__" = some (some (.ref fI_Endless)))
    (eti_Endless : PySem.W.typeIn K (.ref fI_Endless) = some (.type "function"))
    (eli_Endless : K.lookup fI_Endless = some ⟨ioc_Endless, iod_Endless, .func (PySem.W.fnOf "__init__" "Endless.__init__" (defArgs (inClass (topS 27) 0)) (defBody (inClass (topS 27) 0)) (defScope (inClass (topS 27) 0)) .none ikV_Endless idc_Endless ipm_Endless ian_Endless icd_Endless ict_Endless), isl_Endless⟩)
    (eci_Endless : PySem.W.codeIn K icd_Endless "Endless.__init__" = true)
    (eki_Endless : PySem.W.keepIn K (.ref fI_Endless) = true)
    (eg_NoWindow : PySem.W.nsIn K mainGlobals "NoWindow" = some (some (.ref C_NoWindow)))
    (ex_NoWindow : K.lookup C_NoWindow = some (excClassObj nm_NoWindow qn_NoWindow C_NoWindow NS_NoWindow bs_NoWindow [.type "RuntimeError", .type "Exception", .type "BaseException", .type "object"] true sn_NoWindow sub_NoWindow ab_NoWindow col_NoWindow dd_NoWindow m0_NoWindow m1_NoWindow m2_NoWindow m3_NoWindow m5_NoWindow "RuntimeError.__new__"))
    (esa_NoWindow : PySem.W.findIn K (.ref C_NoWindow) "__setattr__" = some (some (.builtin "object.__setattr__")))
    (ega_NoWindow : PySem.W.findIn K (.ref C_NoWindow) "__getattribute__" = some (some (.builtin "BaseException.__getattribute__")))
    (egg_NoWindow : PySem.W.findIn K (.ref C_NoWindow) "__getattr__" = some none)
    (enf_NoWindow : PySem.W.findIn K (.ref C_NoWindow) "user" = some none)
    (ekC_NoWindow : PySem.W.keepIn K (.ref C_NoWindow) = true)
    (eeC_NoWindow : PySem.W.subIn K (.ref C_NoWindow) (.type "BaseException") = some true)
    (etC_NoWindow : PySem.W.typeIn K (.ref C_NoWindow) = some (.type "type"))
    (ehC_NoWindow : PySem.W.hasDictIn K C_NoWindow = true)
    (eiC_NoWindow : PySem.W.isClsIn K C_NoWindow = true)
    (esC_NoWindow : PySem.W.subIn K (.ref C_NoWindow) (.ref C_NoWindow) = some true)
    (eai_NoWindow : PySem.W.findIn K (.ref C_NoWindow) "__init__" = some (some (.ref fI_NoWindow)))
    (eti_NoWindow : PySem.W.typeIn K (.ref fI_NoWindow) = some (.type "function"))
    (eli_NoWindow : K.lookup fI_NoWindow = some ⟨ioc_NoWindow, iod_NoWindow, .func (PySem.W.fnOf "__init__" "NoWindow.__init__" (defArgs (inClass (topS 28) 0)) (defBody (inClass (topS 28) 0)) (defScope (inClass (topS 28) 0)) .none ikV_NoWindow idc_NoWindow ipm_NoWindow ian_NoWindow icd_NoWindow ict_NoWindow), isl_NoWindow⟩)
    (eci_NoWindow : PySem.W.codeIn K icd_NoWindow "NoWindow.__init__" = true)
    (eki_NoWindow : PySem.W.keepIn K (.ref fI_NoWindow) = true)
    (eg_Unfit : PySem.W.nsIn K mainGlobals "Unfit" = some (some (.ref C_Unfit)))
    (ex_Unfit : K.lookup C_Unfit = some (excClassObj nm_Unfit qn_Unfit C_Unfit NS_Unfit bs_Unfit [.type "RuntimeError", .type "Exception", .type "BaseException", .type "object"] true sn_Unfit sub_Unfit ab_Unfit col_Unfit dd_Unfit m0_Unfit m1_Unfit m2_Unfit m3_Unfit m5_Unfit "RuntimeError.__new__"))
    (esa_Unfit : PySem.W.findIn K (.ref C_Unfit) "__setattr__" = some (some (.builtin "object.__setattr__")))
    (ega_Unfit : PySem.W.findIn K (.ref C_Unfit) "__getattribute__" = some (some (.builtin "BaseException.__getattribute__")))
    (egg_Unfit : PySem.W.findIn K (.ref C_Unfit) "__getattr__" = some none)
    (enf_Unfit : PySem.W.findIn K (.ref C_Unfit) "wish" = some none)
    (ekC_Unfit : PySem.W.keepIn K (.ref C_Unfit) = true)
    (eeC_Unfit : PySem.W.subIn K (.ref C_Unfit) (.type "BaseException") = some true)
    (etC_Unfit : PySem.W.typeIn K (.ref C_Unfit) = some (.type "type"))
    (ehC_Unfit : PySem.W.hasDictIn K C_Unfit = true)
    (eiC_Unfit : PySem.W.isClsIn K C_Unfit = true)
    (esC_Unfit : PySem.W.subIn K (.ref C_Unfit) (.ref C_Unfit) = some true)
    (eai_Unfit : PySem.W.findIn K (.ref C_Unfit) "__init__" = some (some (.ref fI_Unfit)))
    (eti_Unfit : PySem.W.typeIn K (.ref fI_Unfit) = some (.type "function"))
    (eli_Unfit : K.lookup fI_Unfit = some ⟨ioc_Unfit, iod_Unfit, .func (PySem.W.fnOf "__init__" "Unfit.__init__" (defArgs (inClass (topS 29) 0)) (defBody (inClass (topS 29) 0)) (defScope (inClass (topS 29) 0)) .none ikV_Unfit idc_Unfit ipm_Unfit ian_Unfit icd_Unfit ict_Unfit), isl_Unfit⟩)
    (eci_Unfit : PySem.W.codeIn K icd_Unfit "Unfit.__init__" = true)
    (eki_Unfit : PySem.W.keepIn K (.ref fI_Unfit) = true)
    (xps_BadEdge_ValueError : PySem.W.subIn K (.ref C_BadEdge) (.type "ValueError") = some true)
    (xps_BadSpan_ValueError : PySem.W.subIn K (.ref C_BadSpan) (.type "ValueError") = some true)
    (xps_BadWindow_ValueError : PySem.W.subIn K (.ref C_BadWindow) (.type "ValueError") = some true)
    (xps_BadMoment_ValueError : PySem.W.subIn K (.ref C_BadMoment) (.type "ValueError") = some true)
    (xps_BadEnds_ValueError : PySem.W.subIn K (.ref C_BadEnds) (.type "ValueError") = some true)
    (xps_BadItem_ValueError : PySem.W.subIn K (.ref C_BadItem) (.type "ValueError") = some true)
    (xps_BadOrder_ValueError : PySem.W.subIn K (.ref C_BadOrder) (.type "ValueError") = some true)
    (xps_BadTest_ValueError : PySem.W.subIn K (.ref C_BadTest) (.type "ValueError") = some true)
    (xps_BadDeed_ValueError : PySem.W.subIn K (.ref C_BadDeed) (.type "ValueError") = some true)
    (xps_BadRule_ValueError : PySem.W.subIn K (.ref C_BadRule) (.type "ValueError") = some true)
    (xps_BadUse_ValueError : PySem.W.subIn K (.ref C_BadUse) (.type "ValueError") = some true)
    (xps_BadWish_ValueError : PySem.W.subIn K (.ref C_BadWish) (.type "ValueError") = some true)
    (xps_BadOption_ValueError : PySem.W.subIn K (.ref C_BadOption) (.type "ValueError") = some true)
    (xps_BadSweep_ValueError : PySem.W.subIn K (.ref C_BadSweep) (.type "ValueError") = some true)
    (xps_BadLevel_ValueError : PySem.W.subIn K (.ref C_BadLevel) (.type "ValueError") = some true)
    (xps_BadDay_ValueError : PySem.W.subIn K (.ref C_BadDay) (.type "ValueError") = some true)
    (xps_BadColumns_ValueError : PySem.W.subIn K (.ref C_BadColumns) (.type "ValueError") = some true)
    (xps_BadText_ValueError : PySem.W.subIn K (.ref C_BadText) (.type "ValueError") = some true)
    (xps_BadCommand_ValueError : PySem.W.subIn K (.ref C_BadCommand) (.type "ValueError") = some true)
    (xps_NoOption_ValueError : PySem.W.subIn K (.ref C_NoOption) (.type "ValueError") = some false)
    (xps_NoRow_ValueError : PySem.W.subIn K (.ref C_NoRow) (.type "ValueError") = some false)
    (xps_NoSpan_ValueError : PySem.W.subIn K (.ref C_NoSpan) (.type "ValueError") = some false)
    (xps_NoName_ValueError : PySem.W.subIn K (.ref C_NoName) (.type "ValueError") = some false)
    (xps_TooMany_ValueError : PySem.W.subIn K (.ref C_TooMany) (.type "ValueError") = some false)
    (xps_TooWide_ValueError : PySem.W.subIn K (.ref C_TooWide) (.type "ValueError") = some false)
    (xps_TooFar_ValueError : PySem.W.subIn K (.ref C_TooFar) (.type "ValueError") = some false)
    (xps_Endless_ValueError : PySem.W.subIn K (.ref C_Endless) (.type "ValueError") = some false)
    (xps_NoWindow_ValueError : PySem.W.subIn K (.ref C_NoWindow) (.type "ValueError") = some false)
    (xps_Unfit_ValueError : PySem.W.subIn K (.ref C_Unfit) (.type "ValueError") = some false)
    (xps_BadEdge_LookupError : PySem.W.subIn K (.ref C_BadEdge) (.type "LookupError") = some false)
    (xps_BadSpan_LookupError : PySem.W.subIn K (.ref C_BadSpan) (.type "LookupError") = some false)
    (xps_BadWindow_LookupError : PySem.W.subIn K (.ref C_BadWindow) (.type "LookupError") = some false)
    (xps_BadMoment_LookupError : PySem.W.subIn K (.ref C_BadMoment) (.type "LookupError") = some false)
    (xps_BadEnds_LookupError : PySem.W.subIn K (.ref C_BadEnds) (.type "LookupError") = some false)
    (xps_BadItem_LookupError : PySem.W.subIn K (.ref C_BadItem) (.type "LookupError") = some false)
    (xps_BadOrder_LookupError : PySem.W.subIn K (.ref C_BadOrder) (.type "LookupError") = some false)
    (xps_BadTest_LookupError : PySem.W.subIn K (.ref C_BadTest) (.type "LookupError") = some false)
    (xps_BadDeed_LookupError : PySem.W.subIn K (.ref C_BadDeed) (.type "LookupError") = some false)
    (xps_BadRule_LookupError : PySem.W.subIn K (.ref C_BadRule) (.type "LookupError") = some false)
    (xps_BadUse_LookupError : PySem.W.subIn K (.ref C_BadUse) (.type "LookupError") = some false)
    (xps_BadWish_LookupError : PySem.W.subIn K (.ref C_BadWish) (.type "LookupError") = some false)
    (xps_BadOption_LookupError : PySem.W.subIn K (.ref C_BadOption) (.type "LookupError") = some false)
    (xps_BadSweep_LookupError : PySem.W.subIn K (.ref C_BadSweep) (.type "LookupError") = some false)
    (xps_BadLevel_LookupError : PySem.W.subIn K (.ref C_BadLevel) (.type "LookupError") = some false)
    (xps_BadDay_LookupError : PySem.W.subIn K (.ref C_BadDay) (.type "LookupError") = some false)
    (xps_BadColumns_LookupError : PySem.W.subIn K (.ref C_BadColumns) (.type "LookupError") = some false)
    (xps_BadText_LookupError : PySem.W.subIn K (.ref C_BadText) (.type "LookupError") = some false)
    (xps_BadCommand_LookupError : PySem.W.subIn K (.ref C_BadCommand) (.type "LookupError") = some false)
    (xps_NoOption_LookupError : PySem.W.subIn K (.ref C_NoOption) (.type "LookupError") = some true)
    (xps_NoRow_LookupError : PySem.W.subIn K (.ref C_NoRow) (.type "LookupError") = some true)
    (xps_NoSpan_LookupError : PySem.W.subIn K (.ref C_NoSpan) (.type "LookupError") = some true)
    (xps_NoName_LookupError : PySem.W.subIn K (.ref C_NoName) (.type "LookupError") = some true)
    (xps_TooMany_LookupError : PySem.W.subIn K (.ref C_TooMany) (.type "LookupError") = some false)
    (xps_TooWide_LookupError : PySem.W.subIn K (.ref C_TooWide) (.type "LookupError") = some false)
    (xps_TooFar_LookupError : PySem.W.subIn K (.ref C_TooFar) (.type "LookupError") = some false)
    (xps_Endless_LookupError : PySem.W.subIn K (.ref C_Endless) (.type "LookupError") = some false)
    (xps_NoWindow_LookupError : PySem.W.subIn K (.ref C_NoWindow) (.type "LookupError") = some false)
    (xps_Unfit_LookupError : PySem.W.subIn K (.ref C_Unfit) (.type "LookupError") = some false)
    (xps_BadEdge_OverflowError : PySem.W.subIn K (.ref C_BadEdge) (.type "OverflowError") = some false)
    (xps_BadSpan_OverflowError : PySem.W.subIn K (.ref C_BadSpan) (.type "OverflowError") = some false)
    (xps_BadWindow_OverflowError : PySem.W.subIn K (.ref C_BadWindow) (.type "OverflowError") = some false)
    (xps_BadMoment_OverflowError : PySem.W.subIn K (.ref C_BadMoment) (.type "OverflowError") = some false)
    (xps_BadEnds_OverflowError : PySem.W.subIn K (.ref C_BadEnds) (.type "OverflowError") = some false)
    (xps_BadItem_OverflowError : PySem.W.subIn K (.ref C_BadItem) (.type "OverflowError") = some false)
    (xps_BadOrder_OverflowError : PySem.W.subIn K (.ref C_BadOrder) (.type "OverflowError") = some false)
    (xps_BadTest_OverflowError : PySem.W.subIn K (.ref C_BadTest) (.type "OverflowError") = some false)
    (xps_BadDeed_OverflowError : PySem.W.subIn K (.ref C_BadDeed) (.type "OverflowError") = some false)
    (xps_BadRule_OverflowError : PySem.W.subIn K (.ref C_BadRule) (.type "OverflowError") = some false)
    (xps_BadUse_OverflowError : PySem.W.subIn K (.ref C_BadUse) (.type "OverflowError") = some false)
    (xps_BadWish_OverflowError : PySem.W.subIn K (.ref C_BadWish) (.type "OverflowError") = some false)
    (xps_BadOption_OverflowError : PySem.W.subIn K (.ref C_BadOption) (.type "OverflowError") = some false)
    (xps_BadSweep_OverflowError : PySem.W.subIn K (.ref C_BadSweep) (.type "OverflowError") = some false)
    (xps_BadLevel_OverflowError : PySem.W.subIn K (.ref C_BadLevel) (.type "OverflowError") = some false)
    (xps_BadDay_OverflowError : PySem.W.subIn K (.ref C_BadDay) (.type "OverflowError") = some false)
    (xps_BadColumns_OverflowError : PySem.W.subIn K (.ref C_BadColumns) (.type "OverflowError") = some false)
    (xps_BadText_OverflowError : PySem.W.subIn K (.ref C_BadText) (.type "OverflowError") = some false)
    (xps_BadCommand_OverflowError : PySem.W.subIn K (.ref C_BadCommand) (.type "OverflowError") = some false)
    (xps_NoOption_OverflowError : PySem.W.subIn K (.ref C_NoOption) (.type "OverflowError") = some false)
    (xps_NoRow_OverflowError : PySem.W.subIn K (.ref C_NoRow) (.type "OverflowError") = some false)
    (xps_NoSpan_OverflowError : PySem.W.subIn K (.ref C_NoSpan) (.type "OverflowError") = some false)
    (xps_NoName_OverflowError : PySem.W.subIn K (.ref C_NoName) (.type "OverflowError") = some false)
    (xps_TooMany_OverflowError : PySem.W.subIn K (.ref C_TooMany) (.type "OverflowError") = some true)
    (xps_TooWide_OverflowError : PySem.W.subIn K (.ref C_TooWide) (.type "OverflowError") = some true)
    (xps_TooFar_OverflowError : PySem.W.subIn K (.ref C_TooFar) (.type "OverflowError") = some true)
    (xps_Endless_OverflowError : PySem.W.subIn K (.ref C_Endless) (.type "OverflowError") = some true)
    (xps_NoWindow_OverflowError : PySem.W.subIn K (.ref C_NoWindow) (.type "OverflowError") = some false)
    (xps_Unfit_OverflowError : PySem.W.subIn K (.ref C_Unfit) (.type "OverflowError") = some false)
    (xps_BadEdge_RuntimeError : PySem.W.subIn K (.ref C_BadEdge) (.type "RuntimeError") = some false)
    (xps_BadSpan_RuntimeError : PySem.W.subIn K (.ref C_BadSpan) (.type "RuntimeError") = some false)
    (xps_BadWindow_RuntimeError : PySem.W.subIn K (.ref C_BadWindow) (.type "RuntimeError") = some false)
    (xps_BadMoment_RuntimeError : PySem.W.subIn K (.ref C_BadMoment) (.type "RuntimeError") = some false)
    (xps_BadEnds_RuntimeError : PySem.W.subIn K (.ref C_BadEnds) (.type "RuntimeError") = some false)
    (xps_BadItem_RuntimeError : PySem.W.subIn K (.ref C_BadItem) (.type "RuntimeError") = some false)
    (xps_BadOrder_RuntimeError : PySem.W.subIn K (.ref C_BadOrder) (.type "RuntimeError") = some false)
    (xps_BadTest_RuntimeError : PySem.W.subIn K (.ref C_BadTest) (.type "RuntimeError") = some false)
    (xps_BadDeed_RuntimeError : PySem.W.subIn K (.ref C_BadDeed) (.type "RuntimeError") = some false)
    (xps_BadRule_RuntimeError : PySem.W.subIn K (.ref C_BadRule) (.type "RuntimeError") = some false)
    (xps_BadUse_RuntimeError : PySem.W.subIn K (.ref C_BadUse) (.type "RuntimeError") = some false)
    (xps_BadWish_RuntimeError : PySem.W.subIn K (.ref C_BadWish) (.type "RuntimeError") = some false)
    (xps_BadOption_RuntimeError : PySem.W.subIn K (.ref C_BadOption) (.type "RuntimeError") = some false)
    (xps_BadSweep_RuntimeError : PySem.W.subIn K (.ref C_BadSweep) (.type "RuntimeError") = some false)
    (xps_BadLevel_RuntimeError : PySem.W.subIn K (.ref C_BadLevel) (.type "RuntimeError") = some false)
    (xps_BadDay_RuntimeError : PySem.W.subIn K (.ref C_BadDay) (.type "RuntimeError") = some false)
    (xps_BadColumns_RuntimeError : PySem.W.subIn K (.ref C_BadColumns) (.type "RuntimeError") = some false)
    (xps_BadText_RuntimeError : PySem.W.subIn K (.ref C_BadText) (.type "RuntimeError") = some false)
    (xps_BadCommand_RuntimeError : PySem.W.subIn K (.ref C_BadCommand) (.type "RuntimeError") = some false)
    (xps_NoOption_RuntimeError : PySem.W.subIn K (.ref C_NoOption) (.type "RuntimeError") = some false)
    (xps_NoRow_RuntimeError : PySem.W.subIn K (.ref C_NoRow) (.type "RuntimeError") = some false)
    (xps_NoSpan_RuntimeError : PySem.W.subIn K (.ref C_NoSpan) (.type "RuntimeError") = some false)
    (xps_NoName_RuntimeError : PySem.W.subIn K (.ref C_NoName) (.type "RuntimeError") = some false)
    (xps_TooMany_RuntimeError : PySem.W.subIn K (.ref C_TooMany) (.type "RuntimeError") = some false)
    (xps_TooWide_RuntimeError : PySem.W.subIn K (.ref C_TooWide) (.type "RuntimeError") = some false)
    (xps_TooFar_RuntimeError : PySem.W.subIn K (.ref C_TooFar) (.type "RuntimeError") = some false)
    (xps_Endless_RuntimeError : PySem.W.subIn K (.ref C_Endless) (.type "RuntimeError") = some false)
    (xps_NoWindow_RuntimeError : PySem.W.subIn K (.ref C_NoWindow) (.type "RuntimeError") = some true)
    (xps_Unfit_RuntimeError : PySem.W.subIn K (.ref C_Unfit) (.type "RuntimeError") = some true)
    (xps_BadEdge_BadSpan : PySem.W.subIn K (.ref C_BadEdge) (.ref C_BadSpan) = some false)
    (xps_BadWindow_BadSpan : PySem.W.subIn K (.ref C_BadWindow) (.ref C_BadSpan) = some false)
    (xps_BadItem_BadSpan : PySem.W.subIn K (.ref C_BadItem) (.ref C_BadSpan) = some false)
    (xps_BadEdge_BadItem : PySem.W.subIn K (.ref C_BadEdge) (.ref C_BadItem) = some false)
    (xps_BadMoment_BadItem : PySem.W.subIn K (.ref C_BadMoment) (.ref C_BadItem) = some false)
    (xps_BadColumns_BadItem : PySem.W.subIn K (.ref C_BadColumns) (.ref C_BadItem) = some false)
    (xps_BadSpan_BadEdge : PySem.W.subIn K (.ref C_BadSpan) (.ref C_BadEdge) = some false)
    (xps_BadWindow_BadEdge : PySem.W.subIn K (.ref C_BadWindow) (.ref C_BadEdge) = some false)
    (xps_BadMoment_BadEdge : PySem.W.subIn K (.ref C_BadMoment) (.ref C_BadEdge) = some false)
    (xps_BadItem_BadEdge : PySem.W.subIn K (.ref C_BadItem) (.ref C_BadEdge) = some false)
    (xps_BadSpan_BadWindow : PySem.W.subIn K (.ref C_BadSpan) (.ref C_BadWindow) = some false)
    (xps_BadEnds_BadWish : PySem.W.subIn K (.ref C_BadEnds) (.ref C_BadWish) = some false)
    (xps_BadOrder_BadWish : PySem.W.subIn K (.ref C_BadOrder) (.ref C_BadWish) = some false)
    (xps_BadOption_BadWish : PySem.W.subIn K (.ref C_BadOption) (.ref C_BadWish) = some false)
    (xps_BadSweep_BadWish : PySem.W.subIn K (.ref C_BadSweep) (.ref C_BadWish) = some false)
    (xps_BadLevel_BadWish : PySem.W.subIn K (.ref C_BadLevel) (.ref C_BadWish) = some false)
    (xps_BadText_BadWish : PySem.W.subIn K (.ref C_BadText) (.ref C_BadWish) = some false)
    (xps_BadEnds_BadOption : PySem.W.subIn K (.ref C_BadEnds) (.ref C_BadOption) = some false)
    (xps_BadSweep_BadOption : PySem.W.subIn K (.ref C_BadSweep) (.ref C_BadOption) = some false)
    (xps_BadOrder_BadUse : PySem.W.subIn K (.ref C_BadOrder) (.ref C_BadUse) = some false)
    (xps_BadRule_BadUse : PySem.W.subIn K (.ref C_BadRule) (.ref C_BadUse) = some false)
    (xps_BadCommand_BadUse : PySem.W.subIn K (.ref C_BadCommand) (.ref C_BadUse) = some false)
    (xps_BadTest_BadRule : PySem.W.subIn K (.ref C_BadTest) (.ref C_BadRule) = some false)
    (xps_BadDeed_BadRule : PySem.W.subIn K (.ref C_BadDeed) (.ref C_BadRule) = some false)
    (xps_BadUse_BadRule : PySem.W.subIn K (.ref C_BadUse) (.ref C_BadRule) = some false)
    (xps_BadTest_BadDeed : PySem.W.subIn K (.ref C_BadTest) (.ref C_BadDeed) = some false)
    (xps_BadDeed_BadTest : PySem.W.subIn K (.ref C_BadDeed) (.ref C_BadTest) = some false)
    (xps_BadRule_BadTest : PySem.W.subIn K (.ref C_BadRule) (.ref C_BadTest) = some false)
    (xps_BadUse_BadOrder : PySem.W.subIn K (.ref C_BadUse) (.ref C_BadOrder) = some false)
    (xps_BadWish_BadEnds : PySem.W.subIn K (.ref C_BadWish) (.ref C_BadEnds) = some false)
    (xps_BadWish_BadLevel : PySem.W.subIn K (.ref C_BadWish) (.ref C_BadLevel) = some false)
    (xps_BadOption_BadSweep : PySem.W.subIn K (.ref C_BadOption) (.ref C_BadSweep) = some false)
    (xps_BadLevel_BadSweep : PySem.W.subIn K (.ref C_BadLevel) (.ref C_BadSweep) = some false)
    (xps_BadDay_BadColumns : PySem.W.subIn K (.ref C_BadDay) (.ref C_BadColumns) = some false)
    (xps_BadDay_BadMoment : PySem.W.subIn K (.ref C_BadDay) (.ref C_BadMoment) = some false)
    (xps_BadColumns_BadDay : PySem.W.subIn K (.ref C_BadColumns) (.ref C_BadDay) = some false)
    (xps_BadText_BadCommand : PySem.W.subIn K (.ref C_BadText) (.ref C_BadCommand) = some false)
    (xps_BadCommand_BadText : PySem.W.subIn K (.ref C_BadCommand) (.ref C_BadText) = some false)
    (xps_NoOption_NoName : PySem.W.subIn K (.ref C_NoOption) (.ref C_NoName) = some false)
    (xps_NoSpan_NoName : PySem.W.subIn K (.ref C_NoSpan) (.ref C_NoName) = some false)
    (xps_NoOption_NoRow : PySem.W.subIn K (.ref C_NoOption) (.ref C_NoRow) = some false)
    (xps_NoSpan_NoRow : PySem.W.subIn K (.ref C_NoSpan) (.ref C_NoRow) = some false)
    (xps_NoRow_NoSpan : PySem.W.subIn K (.ref C_NoRow) (.ref C_NoSpan) = some false)
    (xps_NoName_NoSpan : PySem.W.subIn K (.ref C_NoName) (.ref C_NoSpan) = some false)
    (xps_NoRow_NoOption : PySem.W.subIn K (.ref C_NoRow) (.ref C_NoOption) = some false)
    (xps_NoName_NoOption : PySem.W.subIn K (.ref C_NoName) (.ref C_NoOption) = some false)
    (xps_TooMany_TooWide : PySem.W.subIn K (.ref C_TooMany) (.ref C_TooWide) = some false)
    (xps_TooFar_TooWide : PySem.W.subIn K (.ref C_TooFar) (.ref C_TooWide) = some false)
    (xps_TooMany_TooFar : PySem.W.subIn K (.ref C_TooMany) (.ref C_TooFar) = some false)
    (xps_Endless_TooFar : PySem.W.subIn K (.ref C_Endless) (.ref C_TooFar) = some false)
    (xps_TooWide_TooMany : PySem.W.subIn K (.ref C_TooWide) (.ref C_TooMany) = some false)
    (xps_Endless_TooMany : PySem.W.subIn K (.ref C_Endless) (.ref C_TooMany) = some false)
    (xps_TooWide_Endless : PySem.W.subIn K (.ref C_TooWide) (.ref C_Endless) = some false)
    (xps_TooFar_Endless : PySem.W.subIn K (.ref C_TooFar) (.ref C_Endless) = some false)
    (xps_NoWindow_Unfit : PySem.W.subIn K (.ref C_NoWindow) (.ref C_Unfit) = some false)
    (xps_Unfit_NoWindow : PySem.W.subIn K (.ref C_Unfit) (.ref C_NoWindow) = some false)
    (xha_BadEdge : PySem.W.findIn K (.ref C_BadEdge) "__class__" = some (some (.builtin "object.__class__")))
    (xhm_BadEdge : PySem.W.mroIn K C_BadEdge (.type "object") = some true)
    (xha_BadSpan : PySem.W.findIn K (.ref C_BadSpan) "__class__" = some (some (.builtin "object.__class__")))
    (xhm_BadSpan : PySem.W.mroIn K C_BadSpan (.type "object") = some true)
    (xha_BadWindow : PySem.W.findIn K (.ref C_BadWindow) "__class__" = some (some (.builtin "object.__class__")))
    (xhm_BadWindow : PySem.W.mroIn K C_BadWindow (.type "object") = some true)
    (xha_BadMoment : PySem.W.findIn K (.ref C_BadMoment) "__class__" = some (some (.builtin "object.__class__")))
    (xhm_BadMoment : PySem.W.mroIn K C_BadMoment (.type "object") = some true)
    (xha_BadEnds : PySem.W.findIn K (.ref C_BadEnds) "__class__" = some (some (.builtin "object.__class__")))
    (xhm_BadEnds : PySem.W.mroIn K C_BadEnds (.type "object") = some true)
    (xha_BadItem : PySem.W.findIn K (.ref C_BadItem) "__class__" = some (some (.builtin "object.__class__")))
    (xhm_BadItem : PySem.W.mroIn K C_BadItem (.type "object") = some true)
    (xha_BadOrder : PySem.W.findIn K (.ref C_BadOrder) "__class__" = some (some (.builtin "object.__class__")))
    (xhm_BadOrder : PySem.W.mroIn K C_BadOrder (.type "object") = some true)
    (xha_BadTest : PySem.W.findIn K (.ref C_BadTest) "__class__" = some (some (.builtin "object.__class__")))
    (xhm_BadTest : PySem.W.mroIn K C_BadTest (.type "object") = some true)
    (xha_BadDeed : PySem.W.findIn K (.ref C_BadDeed) "__class__" = some (some (.builtin "object.__class__")))
    (xhm_BadDeed : PySem.W.mroIn K C_BadDeed (.type "object") = some true)
    (xha_BadRule : PySem.W.findIn K (.ref C_BadRule) "__class__" = some (some (.builtin "object.__class__")))
    (xhm_BadRule : PySem.W.mroIn K C_BadRule (.type "object") = some true)
    (xha_BadUse : PySem.W.findIn K (.ref C_BadUse) "__class__" = some (some (.builtin "object.__class__")))
    (xhm_BadUse : PySem.W.mroIn K C_BadUse (.type "object") = some true)
    (xha_BadWish : PySem.W.findIn K (.ref C_BadWish) "__class__" = some (some (.builtin "object.__class__")))
    (xhm_BadWish : PySem.W.mroIn K C_BadWish (.type "object") = some true)
    (xha_BadOption : PySem.W.findIn K (.ref C_BadOption) "__class__" = some (some (.builtin "object.__class__")))
    (xhm_BadOption : PySem.W.mroIn K C_BadOption (.type "object") = some true)
    (xha_BadSweep : PySem.W.findIn K (.ref C_BadSweep) "__class__" = some (some (.builtin "object.__class__")))
    (xhm_BadSweep : PySem.W.mroIn K C_BadSweep (.type "object") = some true)
    (xha_BadLevel : PySem.W.findIn K (.ref C_BadLevel) "__class__" = some (some (.builtin "object.__class__")))
    (xhm_BadLevel : PySem.W.mroIn K C_BadLevel (.type "object") = some true)
    (xha_BadDay : PySem.W.findIn K (.ref C_BadDay) "__class__" = some (some (.builtin "object.__class__")))
    (xhm_BadDay : PySem.W.mroIn K C_BadDay (.type "object") = some true)
    (xha_BadColumns : PySem.W.findIn K (.ref C_BadColumns) "__class__" = some (some (.builtin "object.__class__")))
    (xhm_BadColumns : PySem.W.mroIn K C_BadColumns (.type "object") = some true)
    (xha_BadText : PySem.W.findIn K (.ref C_BadText) "__class__" = some (some (.builtin "object.__class__")))
    (xhm_BadText : PySem.W.mroIn K C_BadText (.type "object") = some true)
    (xha_BadCommand : PySem.W.findIn K (.ref C_BadCommand) "__class__" = some (some (.builtin "object.__class__")))
    (xhm_BadCommand : PySem.W.mroIn K C_BadCommand (.type "object") = some true)
    (xha_NoOption : PySem.W.findIn K (.ref C_NoOption) "__class__" = some (some (.builtin "object.__class__")))
    (xhm_NoOption : PySem.W.mroIn K C_NoOption (.type "object") = some true)
    (xha_NoRow : PySem.W.findIn K (.ref C_NoRow) "__class__" = some (some (.builtin "object.__class__")))
    (xhm_NoRow : PySem.W.mroIn K C_NoRow (.type "object") = some true)
    (xha_NoSpan : PySem.W.findIn K (.ref C_NoSpan) "__class__" = some (some (.builtin "object.__class__")))
    (xhm_NoSpan : PySem.W.mroIn K C_NoSpan (.type "object") = some true)
    (xha_NoName : PySem.W.findIn K (.ref C_NoName) "__class__" = some (some (.builtin "object.__class__")))
    (xhm_NoName : PySem.W.mroIn K C_NoName (.type "object") = some true)
    (xha_TooMany : PySem.W.findIn K (.ref C_TooMany) "__class__" = some (some (.builtin "object.__class__")))
    (xhm_TooMany : PySem.W.mroIn K C_TooMany (.type "object") = some true)
    (xha_TooWide : PySem.W.findIn K (.ref C_TooWide) "__class__" = some (some (.builtin "object.__class__")))
    (xhm_TooWide : PySem.W.mroIn K C_TooWide (.type "object") = some true)
    (xha_TooFar : PySem.W.findIn K (.ref C_TooFar) "__class__" = some (some (.builtin "object.__class__")))
    (xhm_TooFar : PySem.W.mroIn K C_TooFar (.type "object") = some true)
    (xha_Endless : PySem.W.findIn K (.ref C_Endless) "__class__" = some (some (.builtin "object.__class__")))
    (xhm_Endless : PySem.W.mroIn K C_Endless (.type "object") = some true)
    (xha_NoWindow : PySem.W.findIn K (.ref C_NoWindow) "__class__" = some (some (.builtin "object.__class__")))
    (xhm_NoWindow : PySem.W.mroIn K C_NoWindow (.type "object") = some true)
    (xha_Unfit : PySem.W.findIn K (.ref C_Unfit) "__class__" = some (some (.builtin "object.__class__")))
    (xhm_Unfit : PySem.W.mroIn K C_Unfit (.type "object") = some true)
    (ic_n : PySem.W.specialIn K (.builtin "object.__class__") "__get__" = some (some (.builtin "getset_descriptor.__get__")))
    (ic_t : PySem.W.takesIn K (.builtin "object.__class__") = some true)
    (a_l_bag : PySem.W.nsIn K mainGlobals "_law_bag" = some (some (.ref f_l_bag)))
    (l_l_bag : K.lookup f_l_bag = some ⟨oc_l_bag, od_l_bag, .func (PySem.W.fnOf "_law_bag" "_law_bag" (defArgs s_l_bag) (defBody s_l_bag) (defScope s_l_bag) .none kV_l_bag dc_l_bag pm_l_bag an_l_bag cd_l_bag ct_l_bag), sl_l_bag⟩)
    (c_l_bag : PySem.W.codeIn K cd_l_bag "_law_bag" = true)
    (k_l_bag : PySem.W.keepIn K (.ref f_l_bag) = true)
    (a_l_take : PySem.W.nsIn K mainGlobals "_law_take" = some (some (.ref f_l_take)))
    (l_l_take : K.lookup f_l_take = some ⟨oc_l_take, od_l_take, .func (PySem.W.fnOf "_law_take" "_law_take" (defArgs s_l_take) (defBody s_l_take) (defScope s_l_take) .none kV_l_take dc_l_take pm_l_take an_l_take cd_l_take ct_l_take), sl_l_take⟩)
    (c_l_take : PySem.W.codeIn K cd_l_take "_law_take" = true)
    (k_l_take : PySem.W.keepIn K (.ref f_l_take) = true)
    (a_l_any : PySem.W.nsIn K mainGlobals "_law_any" = some (some (.ref f_l_any)))
    (l_l_any : K.lookup f_l_any = some ⟨oc_l_any, od_l_any, .func (PySem.W.fnOf "_law_any" "_law_any" (defArgs s_l_any) (defBody s_l_any) (defScope s_l_any) .none kV_l_any dc_l_any pm_l_any an_l_any cd_l_any ct_l_any), sl_l_any⟩)
    (c_l_any : PySem.W.codeIn K cd_l_any "_law_any" = true)
    (k_l_any : PySem.W.keepIn K (.ref f_l_any) = true)
    (a_l_kinds : PySem.W.nsIn K mainGlobals "_law_kinds" = some (some (.ref f_l_kinds)))
    (l_l_kinds : K.lookup f_l_kinds = some ⟨oc_l_kinds, od_l_kinds, .func (PySem.W.fnOf "_law_kinds" "_law_kinds" (defArgs s_l_kinds) (defBody s_l_kinds) (defScope s_l_kinds) .none kV_l_kinds dc_l_kinds pm_l_kinds an_l_kinds cd_l_kinds ct_l_kinds), sl_l_kinds⟩)
    (c_l_kinds : PySem.W.codeIn K cd_l_kinds "_law_kinds" = true)
    (k_l_kinds : PySem.W.keepIn K (.ref f_l_kinds) = true)
    (a_l_values : PySem.W.nsIn K mainGlobals "_law_values" = some (some (.ref f_l_values)))
    (l_l_values : K.lookup f_l_values = some ⟨oc_l_values, od_l_values, .func (PySem.W.fnOf "_law_values" "_law_values" (defArgs s_l_values) (defBody s_l_values) (defScope s_l_values) .none kV_l_values dc_l_values pm_l_values an_l_values cd_l_values ct_l_values), sl_l_values⟩)
    (c_l_values : PySem.W.codeIn K cd_l_values "_law_values" = true)
    (k_l_values : PySem.W.keepIn K (.ref f_l_values) = true)
    (a_l_others : PySem.W.nsIn K mainGlobals "_law_others" = some (some (.ref f_l_others)))
    (l_l_others : K.lookup f_l_others = some ⟨oc_l_others, od_l_others, .func (PySem.W.fnOf "_law_others" "_law_others" (defArgs s_l_others) (defBody s_l_others) (defScope s_l_others) .none kV_l_others dc_l_others pm_l_others an_l_others cd_l_others ct_l_others), sl_l_others⟩)
    (c_l_others : PySem.W.codeIn K cd_l_others "_law_others" = true)
    (k_l_others : PySem.W.keepIn K (.ref f_l_others) = true)
    (a_law : PySem.W.nsIn K mainGlobals "law" = some (some (.ref f_law)))
    (l_law : K.lookup f_law = some ⟨oc_law, od_law, .func (PySem.W.fnOf "law" "law" (defArgs s_law) (defBody s_law) (defScope s_law) .none kV_law dc_law pm_law an_law cd_law ct_law), sl_law⟩)
    (c_law : PySem.W.codeIn K cd_law "law" = true)
    (k_law : PySem.W.keepIn K (.ref f_law) = true)
    : ∃ fd : FuncData, (∀ (s : Shared) (v : Value), BindsTo s fd ⟨[v], []⟩ [("_law_script", v)]) ∧ ∀ bh : Heap, K.In bh → bh.Ns mainGlobals mg → FnG l.prog w K mg bh 11 fa fd ["_law_script"] (sp_law K) := by
  have e := hfa.symm.trans (PySem.W.mg_of X G a_law)
  cases e
  have B : Blt mg := ⟨PySem.W.mg_none_of X G z_LookupError, PySem.W.mg_none_of X G z_OverflowError, PySem.W.mg_none_of X G z_RuntimeError, PySem.W.mg_none_of X G z_ValueError, PySem.W.mg_none_of X G z_abs, PySem.W.mg_none_of X G z_int, PySem.W.mg_none_of X G z_isinstance, PySem.W.mg_none_of X G z_len, PySem.W.mg_none_of X G z_max, PySem.W.mg_none_of X G z_min, PySem.W.mg_none_of X G z_range, PySem.W.mg_none_of X G z_repr, PySem.W.mg_none_of X G z_tuple⟩
  have T : Txt K mg := ⟨trivial⟩
  obtain ⟨cm, hc0, hc1, hc2, hc3, hc4, hc5, hc6, hc7, hc8, hc9, hc10, hc11, hc12, hc13, hc14, hc15, hc16, hc17, hc18, hc19, hc20, hc21, hc22, hc23, hc24, hc25, hc26, hc27, hc28⟩ : ∃ cm : Str → Addr, cm "BadEdge" = C_BadEdge ∧ cm "BadSpan" = C_BadSpan ∧ cm "BadWindow" = C_BadWindow ∧ cm "BadMoment" = C_BadMoment ∧ cm "BadEnds" = C_BadEnds ∧ cm "BadItem" = C_BadItem ∧ cm "BadOrder" = C_BadOrder ∧ cm "BadTest" = C_BadTest ∧ cm "BadDeed" = C_BadDeed ∧ cm "BadRule" = C_BadRule ∧ cm "BadUse" = C_BadUse ∧ cm "BadWish" = C_BadWish ∧ cm "BadOption" = C_BadOption ∧ cm "BadSweep" = C_BadSweep ∧ cm "BadLevel" = C_BadLevel ∧ cm "BadDay" = C_BadDay ∧ cm "BadColumns" = C_BadColumns ∧ cm "BadText" = C_BadText ∧ cm "BadCommand" = C_BadCommand ∧ cm "NoOption" = C_NoOption ∧ cm "NoRow" = C_NoRow ∧ cm "NoSpan" = C_NoSpan ∧ cm "NoName" = C_NoName ∧ cm "TooMany" = C_TooMany ∧ cm "TooWide" = C_TooWide ∧ cm "TooFar" = C_TooFar ∧ cm "Endless" = C_Endless ∧ cm "NoWindow" = C_NoWindow ∧ cm "Unfit" = C_Unfit := ⟨fun s => if s = "BadEdge" then C_BadEdge else if s = "BadSpan" then C_BadSpan else if s = "BadWindow" then C_BadWindow else if s = "BadMoment" then C_BadMoment else if s = "BadEnds" then C_BadEnds else if s = "BadItem" then C_BadItem else if s = "BadOrder" then C_BadOrder else if s = "BadTest" then C_BadTest else if s = "BadDeed" then C_BadDeed else if s = "BadRule" then C_BadRule else if s = "BadUse" then C_BadUse else if s = "BadWish" then C_BadWish else if s = "BadOption" then C_BadOption else if s = "BadSweep" then C_BadSweep else if s = "BadLevel" then C_BadLevel else if s = "BadDay" then C_BadDay else if s = "BadColumns" then C_BadColumns else if s = "BadText" then C_BadText else if s = "BadCommand" then C_BadCommand else if s = "NoOption" then C_NoOption else if s = "NoRow" then C_NoRow else if s = "NoSpan" then C_NoSpan else if s = "NoName" then C_NoName else if s = "TooMany" then C_TooMany else if s = "TooWide" then C_TooWide else if s = "TooFar" then C_TooFar else if s = "Endless" then C_Endless else if s = "NoWindow" then C_NoWindow else C_Unfit, if_pos rfl, (if_neg (by decide +kernel)).trans (if_pos rfl), (if_neg (by decide +kernel)).trans ((if_neg (by decide +kernel)).trans (if_pos rfl)), (if_neg (by decide +kernel)).trans ((if_neg (by decide +kernel)).trans ((if_neg (by decide +kernel)).trans (if_pos rfl))), (if_neg (by decide +kernel)).trans ((if_neg (by decide +kernel)).trans ((if_neg (by decide +kernel)).trans ((if_neg (by decide +kernel)).trans (if_pos rfl)))), (if_neg (by decide +kernel)).trans ((if_neg (by decide +kernel)).trans ((if_neg (by decide +kernel)).trans ((if_neg (by decide +kernel)).trans ((if_neg (by decide +kernel)).trans (if_pos rfl))))), (if_neg (by decide +kernel)).trans ((if_neg (by decide +kernel)).trans ((if_neg (by decide +kernel)).trans ((if_neg (by decide +kernel)).trans ((if_neg (by decide +kernel)).trans ((if_neg (by decide +kernel)).trans (if_pos rfl)))))), (if_neg (by decide +kernel)).trans ((if_neg (by decide +kernel)).trans ((if_neg (by decide +kernel)).trans ((if_neg (by decide +kernel)).trans ((if_neg (by decide +kernel)).trans ((if_neg (by decide +kernel)).trans ((if_neg (by decide +kernel)).trans (if_pos rfl))))))), (if_neg (by decide +kernel)).trans ((if_neg (by decide +kernel)).trans ((if_neg (by decide +kernel)).trans ((if_neg (by decide +kernel)).trans ((if_neg (by decide +kernel)).trans ((if_neg (by decide +kernel)).trans ((if_neg (by decide +kernel)).trans ((if_neg (by decide +kernel)).trans (if_pos rfl)))))))), (if_neg (by decide +kernel)).trans ((if_neg (by decide +kernel)).trans ((if_neg (by decide +kernel)).trans ((if_neg (by decide +kernel)).trans ((if_neg (by decide +kernel)).trans ((if_neg (by decide +kernel)).trans ((if_neg (by decide +kernel)).trans ((if_neg (by decide +kernel)).trans ((if_neg (by decide +kernel)).trans (if_pos rfl))))))))), (if_neg (by decide +kernel)).trans ((if_neg (by decide +kernel)).trans ((if_neg (by decide +kernel)).trans ((if_neg (by decide +kernel)).trans ((if_neg (by decide +kernel)).trans ((if_neg (by decide +kernel)).trans ((if_neg (by decide +kernel)).trans ((if_neg (by decide +kernel)).trans ((if_neg (by decide +kernel)).trans ((if_neg (by decide +kernel)).trans (if_pos rfl)))))))))), (if_neg (by decide +kernel)).trans ((if_neg (by decide +kernel)).trans ((if_neg (by decide +kernel)).trans ((if_neg (by decide +kernel)).trans ((if_neg (by decide +kernel)).trans ((if_neg (by decide +kernel)).trans ((if_neg (by decide +kernel)).trans ((if_neg (by decide +kernel)).trans ((if_neg (by decide +kernel)).trans ((if_neg (by decide +kernel)).trans ((if_neg (by decide +kernel)).trans (if_pos rfl))))))))))), (if_neg (by decide +kernel)).trans ((if_neg (by decide +kernel)).trans ((if_neg (by decide +kernel)).trans ((if_neg (by decide +kernel)).trans ((if_neg (by decide +kernel)).trans ((if_neg (by decide +kernel)).trans ((if_neg (by decide +kernel)).trans ((if_neg (by decide +kernel)).trans ((if_neg (by decide +kernel)).trans ((if_neg (by decide +kernel)).trans ((if_neg (by decide +kernel)).trans ((if_neg (by decide +kernel)).trans (if_pos rfl)))))))))))), (if_neg (by decide +kernel)).trans ((if_neg (by decide +kernel)).trans ((if_neg (by decide +kernel)).trans ((if_neg (by decide +kernel)).trans ((if_neg (by decide +kernel)).trans ((if_neg (by decide +kernel)).trans ((if_neg (by decide +kernel)).trans ((if_neg (by decide +kernel)).trans ((if_neg (by decide +kernel)).trans ((if_neg (by decide +kernel)).trans ((if_neg (by decide +kernel)).trans ((if_neg (by decide +kernel)).trans ((if_neg (by decide +kernel)).trans (if_pos rfl))))))))))))), (if_neg (by decide +kernel)).trans ((if_neg (by decide +kernel)).trans ((if_neg (by decide +kernel)).trans ((if_neg (by decide +kernel)).trans ((if_neg (by decide +kernel)).trans ((if_neg (by decide +kernel)).trans ((if_neg (by decide +kernel)).trans ((if_neg (by decide +kernel)).trans ((if_neg (by decide +kernel)).trans ((if_neg (by decide +kernel)).trans ((if_neg (by decide +kernel)).trans ((if_neg (by decide +kernel)).trans ((if_neg (by decide +kernel)).trans ((if_neg (by decide +kernel)).trans (if_pos rfl)))))))))))))), (if_neg (by decide +kernel)).trans ((if_neg (by decide +kernel)).trans ((if_neg (by decide +kernel)).trans ((if_neg (by decide +kernel)).trans ((if_neg (by decide +kernel)).trans ((if_neg (by decide +kernel)).trans ((if_neg (by decide +kernel)).trans ((if_neg (by decide +kernel)).trans ((if_neg (by decide +kernel)).trans ((if_neg (by decide +kernel)).trans ((if_neg (by decide +kernel)).trans ((if_neg (by decide +kernel)).trans ((if_neg (by decide +kernel)).trans ((if_neg (by decide +kernel)).trans ((if_neg (by decide +kernel)).trans (if_pos rfl))))))))))))))), (if_neg (by decide +kernel)).trans ((if_neg (by decide +kernel)).trans ((if_neg (by decide +kernel)).trans ((if_neg (by decide +kernel)).trans ((if_neg (by decide +kernel)).trans ((if_neg (by decide +kernel)).trans ((if_neg (by decide +kernel)).trans ((if_neg (by decide +kernel)).trans ((if_neg (by decide +kernel)).trans ((if_neg (by decide +kernel)).trans ((if_neg (by decide +kernel)).trans ((if_neg (by decide +kernel)).trans ((if_neg (by decide +kernel)).trans ((if_neg (by decide +kernel)).trans ((if_neg (by decide +kernel)).trans ((if_neg (by decide +kernel)).trans (if_pos rfl)))))))))))))))), (if_neg (by decide +kernel)).trans ((if_neg (by decide +kernel)).trans ((if_neg (by decide +kernel)).trans ((if_neg (by decide +kernel)).trans ((if_neg (by decide +kernel)).trans ((if_neg (by decide +kernel)).trans ((if_neg (by decide +kernel)).trans ((if_neg (by decide +kernel)).trans ((if_neg (by decide +kernel)).trans ((if_neg (by decide +kernel)).trans ((if_neg (by decide +kernel)).trans ((if_neg (by decide +kernel)).trans ((if_neg (by decide +kernel)).trans ((if_neg (by decide +kernel)).trans ((if_neg (by decide +kernel)).trans ((if_neg (by decide +kernel)).trans ((if_neg (by decide +kernel)).trans (if_pos rfl))))))))))))))))), (if_neg (by decide +kernel)).trans ((if_neg (by decide +kernel)).trans ((if_neg (by decide +kernel)).trans ((if_neg (by decide +kernel)).trans ((if_neg (by decide +kernel)).trans ((if_neg (by decide +kernel)).trans ((if_neg (by decide +kernel)).trans ((if_neg (by decide +kernel)).trans ((if_neg (by decide +kernel)).trans ((if_neg (by decide +kernel)).trans ((if_neg (by decide +kernel)).trans ((if_neg (by decide +kernel)).trans ((if_neg (by decide +kernel)).trans ((if_neg (by decide +kernel)).trans ((if_neg (by decide +kernel)).trans ((if_neg (by decide +kernel)).trans ((if_neg (by decide +kernel)).trans ((if_neg (by decide +kernel)).trans (if_pos rfl)))))))))))))))))), (if_neg (by decide +kernel)).trans ((if_neg (by decide +kernel)).trans ((if_neg (by decide +kernel)).trans ((if_neg (by decide +kernel)).trans ((if_neg (by decide +kernel)).trans ((if_neg (by decide +kernel)).trans ((if_neg (by decide +kernel)).trans ((if_neg (by decide +kernel)).trans ((if_neg (by decide +kernel)).trans ((if_neg (by decide +kernel)).trans ((if_neg (by decide +kernel)).trans ((if_neg (by decide +kernel)).trans ((if_neg (by decide +kernel)).trans ((if_neg (by decide +kernel)).trans ((if_neg (by decide +kernel)).trans ((if_neg (by decide +kernel)).trans ((if_neg (by decide +kernel)).trans ((if_neg (by decide +kernel)).trans ((if_neg (by decide +kernel)).trans (if_pos rfl))))))))))))))))))), (if_neg (by decide +kernel)).trans ((if_neg (by decide +kernel)).trans ((if_neg (by decide +kernel)).trans ((if_neg (by decide +kernel)).trans ((if_neg (by decide +kernel)).trans ((if_neg (by decide +kernel)).trans ((if_neg (by decide +kernel)).trans ((if_neg (by decide +kernel)).trans ((if_neg (by decide +kernel)).trans ((if_neg (by decide +kernel)).trans ((if_neg (by decide +kernel)).trans ((if_neg (by decide +kernel)).trans ((if_neg (by decide +kernel)).trans ((if_neg (by decide +kernel)).trans ((if_neg (by decide +kernel)).trans ((if_neg (by decide +kernel)).trans ((if_neg (by decide +kernel)).trans ((if_neg (by decide +kernel)).trans ((if_neg (by decide +kernel)).trans ((if_neg (by decide +kernel)).trans (if_pos rfl)))))))))))))))))))), (if_neg (by decide +kernel)).trans ((if_neg (by decide +kernel)).trans ((if_neg (by decide +kernel)).trans ((if_neg (by decide +kernel)).trans ((if_neg (by decide +kernel)).trans ((if_neg (by decide +kernel)).trans ((if_neg (by decide +kernel)).trans ((if_neg (by decide +kernel)).trans ((if_neg (by decide +kernel)).trans ((if_neg (by decide +kernel)).trans ((if_neg (by decide +kernel)).trans ((if_neg (by decide +kernel)).trans ((if_neg (by decide +kernel)).trans ((if_neg (by decide +kernel)).trans ((if_neg (by decide +kernel)).trans ((if_neg (by decide +kernel)).trans ((if_neg (by decide +kernel)).trans ((if_neg (by decide +kernel)).trans ((if_neg (by decide +kernel)).trans ((if_neg (by decide +kernel)).trans ((if_neg (by decide +kernel)).trans (if_pos rfl))))))))))))))))))))), (if_neg (by decide +kernel)).trans ((if_neg (by decide +kernel)).trans ((if_neg (by decide +kernel)).trans ((if_neg (by decide +kernel)).trans ((if_neg (by decide +kernel)).trans ((if_neg (by decide +kernel)).trans ((if_neg (by decide +kernel)).trans ((if_neg (by decide +kernel)).trans ((if_neg (by decide +kernel)).trans ((if_neg (by decide +kernel)).trans ((if_neg (by decide +kernel)).trans ((if_neg (by decide +kernel)).trans ((if_neg (by decide +kernel)).trans ((if_neg (by decide +kernel)).trans ((if_neg (by decide +kernel)).trans ((if_neg (by decide +kernel)).trans ((if_neg (by decide +kernel)).trans ((if_neg (by decide +kernel)).trans ((if_neg (by decide +kernel)).trans ((if_neg (by decide +kernel)).trans ((if_neg (by decide +kernel)).trans ((if_neg (by decide +kernel)).trans (if_pos rfl)))))))))))))))))))))), (if_neg (by decide +kernel)).trans ((if_neg (by decide +kernel)).trans ((if_neg (by decide +kernel)).trans ((if_neg (by decide +kernel)).trans ((if_neg (by decide +kernel)).trans ((if_neg (by decide +kernel)).trans ((if_neg (by decide +kernel)).trans ((if_neg (by decide +kernel)).trans ((if_neg (by decide +kernel)).trans ((if_neg (by decide +kernel)).trans ((if_neg (by decide +kernel)).trans ((if_neg (by decide +kernel)).trans ((if_neg (by decide +kernel)).trans ((if_neg (by decide +kernel)).trans ((if_neg (by decide +kernel)).trans ((if_neg (by decide +kernel)).trans ((if_neg (by decide +kernel)).trans ((if_neg (by decide +kernel)).trans ((if_neg (by decide +kernel)).trans ((if_neg (by decide +kernel)).trans ((if_neg (by decide +kernel)).trans ((if_neg (by decide +kernel)).trans ((if_neg (by decide +kernel)).trans (if_pos rfl))))))))))))))))))))))), (if_neg (by decide +kernel)).trans ((if_neg (by decide +kernel)).trans ((if_neg (by decide +kernel)).trans ((if_neg (by decide +kernel)).trans ((if_neg (by decide +kernel)).trans ((if_neg (by decide +kernel)).trans ((if_neg (by decide +kernel)).trans ((if_neg (by decide +kernel)).trans ((if_neg (by decide +kernel)).trans ((if_neg (by decide +kernel)).trans ((if_neg (by decide +kernel)).trans ((if_neg (by decide +kernel)).trans ((if_neg (by decide +kernel)).trans ((if_neg (by decide +kernel)).trans ((if_neg (by decide +kernel)).trans ((if_neg (by decide +kernel)).trans ((if_neg (by decide +kernel)).trans ((if_neg (by decide +kernel)).trans ((if_neg (by decide +kernel)).trans ((if_neg (by decide +kernel)).trans ((if_neg (by decide +kernel)).trans ((if_neg (by decide +kernel)).trans ((if_neg (by decide +kernel)).trans ((if_neg (by decide +kernel)).trans (if_pos rfl)))))))))))))))))))))))), (if_neg (by decide +kernel)).trans ((if_neg (by decide +kernel)).trans ((if_neg (by decide +kernel)).trans ((if_neg (by decide +kernel)).trans ((if_neg (by decide +kernel)).trans ((if_neg (by decide +kernel)).trans ((if_neg (by decide +kernel)).trans ((if_neg (by decide +kernel)).trans ((if_neg (by decide +kernel)).trans ((if_neg (by decide +kernel)).trans ((if_neg (by decide +kernel)).trans ((if_neg (by decide +kernel)).trans ((if_neg (by decide +kernel)).trans ((if_neg (by decide +kernel)).trans ((if_neg (by decide +kernel)).trans ((if_neg (by decide +kernel)).trans ((if_neg (by decide +kernel)).trans ((if_neg (by decide +kernel)).trans ((if_neg (by decide +kernel)).trans ((if_neg (by decide +kernel)).trans ((if_neg (by decide +kernel)).trans ((if_neg (by decide +kernel)).trans ((if_neg (by decide +kernel)).trans ((if_neg (by decide +kernel)).trans ((if_neg (by decide +kernel)).trans (if_pos rfl))))))))))))))))))))))))), (if_neg (by decide +kernel)).trans ((if_neg (by decide +kernel)).trans ((if_neg (by decide +kernel)).trans ((if_neg (by decide +kernel)).trans ((if_neg (by decide +kernel)).trans ((if_neg (by decide +kernel)).trans ((if_neg (by decide +kernel)).trans ((if_neg (by decide +kernel)).trans ((if_neg (by decide +kernel)).trans ((if_neg (by decide +kernel)).trans ((if_neg (by decide +kernel)).trans ((if_neg (by decide +kernel)).trans ((if_neg (by decide +kernel)).trans ((if_neg (by decide +kernel)).trans ((if_neg (by decide +kernel)).trans ((if_neg (by decide +kernel)).trans ((if_neg (by decide +kernel)).trans ((if_neg (by decide +kernel)).trans ((if_neg (by decide +kernel)).trans ((if_neg (by decide +kernel)).trans ((if_neg (by decide +kernel)).trans ((if_neg (by decide +kernel)).trans ((if_neg (by decide +kernel)).trans ((if_neg (by decide +kernel)).trans ((if_neg (by decide +kernel)).trans ((if_neg (by decide +kernel)).trans (if_pos rfl)))))))))))))))))))))))))), (if_neg (by decide +kernel)).trans ((if_neg (by decide +kernel)).trans ((if_neg (by decide +kernel)).trans ((if_neg (by decide +kernel)).trans ((if_neg (by decide +kernel)).trans ((if_neg (by decide +kernel)).trans ((if_neg (by decide +kernel)).trans ((if_neg (by decide +kernel)).trans ((if_neg (by decide +kernel)).trans ((if_neg (by decide +kernel)).trans ((if_neg (by decide +kernel)).trans ((if_neg (by decide +kernel)).trans ((if_neg (by decide +kernel)).trans ((if_neg (by decide +kernel)).trans ((if_neg (by decide +kernel)).trans ((if_neg (by decide +kernel)).trans ((if_neg (by decide +kernel)).trans ((if_neg (by decide +kernel)).trans ((if_neg (by decide +kernel)).trans ((if_neg (by decide +kernel)).trans ((if_neg (by decide +kernel)).trans ((if_neg (by decide +kernel)).trans ((if_neg (by decide +kernel)).trans ((if_neg (by decide +kernel)).trans ((if_neg (by decide +kernel)).trans ((if_neg (by decide +kernel)).trans ((if_neg (by decide +kernel)).trans (if_pos rfl))))))))))))))))))))))))))), (if_neg (by decide +kernel)).trans ((if_neg (by decide +kernel)).trans ((if_neg (by decide +kernel)).trans ((if_neg (by decide +kernel)).trans ((if_neg (by decide +kernel)).trans ((if_neg (by decide +kernel)).trans ((if_neg (by decide +kernel)).trans ((if_neg (by decide +kernel)).trans ((if_neg (by decide +kernel)).trans ((if_neg (by decide +kernel)).trans ((if_neg (by decide +kernel)).trans ((if_neg (by decide +kernel)).trans ((if_neg (by decide +kernel)).trans ((if_neg (by decide +kernel)).trans ((if_neg (by decide +kernel)).trans ((if_neg (by decide +kernel)).trans ((if_neg (by decide +kernel)).trans ((if_neg (by decide +kernel)).trans ((if_neg (by decide +kernel)).trans ((if_neg (by decide +kernel)).trans ((if_neg (by decide +kernel)).trans ((if_neg (by decide +kernel)).trans ((if_neg (by decide +kernel)).trans ((if_neg (by decide +kernel)).trans ((if_neg (by decide +kernel)).trans ((if_neg (by decide +kernel)).trans ((if_neg (by decide +kernel)).trans ((if_neg (by decide +kernel)).trans (rfl))))))))))))))))))))))))))))⟩
  subst hc0
  subst hc1
  subst hc2
  subst hc3
  subst hc4
  subst hc5
  subst hc6
  subst hc7
  subst hc8
  subst hc9
  subst hc10
  subst hc11
  subst hc12
  subst hc13
  subst hc14
  subst hc15
  subst hc16
  subst hc17
  subst hc18
  subst hc19
  subst hc20
  subst hc21
  subst hc22
  subst hc23
  subst hc24
  subst hc25
  subst hc26
  subst hc27
  subst hc28
  have EF_BadEdge : ErrG K (cm "BadEdge") "edge" := ⟨⟨"ValueError", "ValueError.__new__", "ValueError.__init__", _, PySem.F.excBase_ValueError, PySem.F.store_ValueError.passes, by decide +kernel, nm_BadEdge, qn_BadEdge, NS_BadEdge, bs_BadEdge, sn_BadEdge, sub_BadEdge, ab_BadEdge, col_BadEdge, dd_BadEdge, m0_BadEdge, m1_BadEdge, m2_BadEdge, m3_BadEdge, m5_BadEdge, ex_BadEdge⟩, esa_BadEdge, ega_BadEdge, egg_BadEdge, enf_BadEdge, ekC_BadEdge, eeC_BadEdge, etC_BadEdge, ehC_BadEdge, eiC_BadEdge, esC_BadEdge⟩
  have FI_BadEdge := fun_mk (st := inClass (topS 1) 0) eli_BadEdge eci_BadEdge eki_BadEdge
  have bI_BadEdge := FI_BadEdge.binds (ps := ["self", "edge"]) fun _ _ _ _ _ _ us hl => match us, hl with | [_, _], _ => rfl
  have EF_BadSpan : ErrG K (cm "BadSpan") "span" := ⟨⟨"ValueError", "ValueError.__new__", "ValueError.__init__", _, PySem.F.excBase_ValueError, PySem.F.store_ValueError.passes, by decide +kernel, nm_BadSpan, qn_BadSpan, NS_BadSpan, bs_BadSpan, sn_BadSpan, sub_BadSpan, ab_BadSpan, col_BadSpan, dd_BadSpan, m0_BadSpan, m1_BadSpan, m2_BadSpan, m3_BadSpan, m5_BadSpan, ex_BadSpan⟩, esa_BadSpan, ega_BadSpan, egg_BadSpan, enf_BadSpan, ekC_BadSpan, eeC_BadSpan, etC_BadSpan, ehC_BadSpan, eiC_BadSpan, esC_BadSpan⟩
  have FI_BadSpan := fun_mk (st := inClass (topS 2) 0) eli_BadSpan eci_BadSpan eki_BadSpan
  have bI_BadSpan := FI_BadSpan.binds (ps := ["self", "span"]) fun _ _ _ _ _ _ us hl => match us, hl with | [_, _], _ => rfl
  have EF_BadWindow : ErrG K (cm "BadWindow") "window" := ⟨⟨"ValueError", "ValueError.__new__", "ValueError.__init__", _, PySem.F.excBase_ValueError, PySem.F.store_ValueError.passes, by decide +kernel, nm_BadWindow, qn_BadWindow, NS_BadWindow, bs_BadWindow, sn_BadWindow, sub_BadWindow, ab_BadWindow, col_BadWindow, dd_BadWindow, m0_BadWindow, m1_BadWindow, m2_BadWindow, m3_BadWindow, m5_BadWindow, ex_BadWindow⟩, esa_BadWindow, ega_BadWindow, egg_BadWindow, enf_BadWindow, ekC_BadWindow, eeC_BadWindow, etC_BadWindow, ehC_BadWindow, eiC_BadWindow, esC_BadWindow⟩
  have FI_BadWindow := fun_mk (st := inClass (topS 3) 0) eli_BadWindow eci_BadWindow eki_BadWindow
  have bI_BadWindow := FI_BadWindow.binds (ps := ["self", "window"]) fun _ _ _ _ _ _ us hl => match us, hl with | [_, _], _ => rfl
  have EF_BadMoment : ErrG K (cm "BadMoment") "moment" := ⟨⟨"ValueError", "ValueError.__new__", "ValueError.__init__", _, PySem.F.excBase_ValueError, PySem.F.store_ValueError.passes, by decide +kernel, nm_BadMoment, qn_BadMoment, NS_BadMoment, bs_BadMoment, sn_BadMoment, sub_BadMoment, ab_BadMoment, col_BadMoment, dd_BadMoment, m0_BadMoment, m1_BadMoment, m2_BadMoment, m3_BadMoment, m5_BadMoment, ex_BadMoment⟩, esa_BadMoment, ega_BadMoment, egg_BadMoment, enf_BadMoment, ekC_BadMoment, eeC_BadMoment, etC_BadMoment, ehC_BadMoment, eiC_BadMoment, esC_BadMoment⟩
  have FI_BadMoment := fun_mk (st := inClass (topS 4) 0) eli_BadMoment eci_BadMoment eki_BadMoment
  have bI_BadMoment := FI_BadMoment.binds (ps := ["self", "moment"]) fun _ _ _ _ _ _ us hl => match us, hl with | [_, _], _ => rfl
  have EF_BadEnds : ErrG K (cm "BadEnds") "ends" := ⟨⟨"ValueError", "ValueError.__new__", "ValueError.__init__", _, PySem.F.excBase_ValueError, PySem.F.store_ValueError.passes, by decide +kernel, nm_BadEnds, qn_BadEnds, NS_BadEnds, bs_BadEnds, sn_BadEnds, sub_BadEnds, ab_BadEnds, col_BadEnds, dd_BadEnds, m0_BadEnds, m1_BadEnds, m2_BadEnds, m3_BadEnds, m5_BadEnds, ex_BadEnds⟩, esa_BadEnds, ega_BadEnds, egg_BadEnds, enf_BadEnds, ekC_BadEnds, eeC_BadEnds, etC_BadEnds, ehC_BadEnds, eiC_BadEnds, esC_BadEnds⟩
  have FI_BadEnds := fun_mk (st := inClass (topS 5) 0) eli_BadEnds eci_BadEnds eki_BadEnds
  have bI_BadEnds := FI_BadEnds.binds (ps := ["self", "ends"]) fun _ _ _ _ _ _ us hl => match us, hl with | [_, _], _ => rfl
  have EF_BadItem : ErrG K (cm "BadItem") "index" := ⟨⟨"ValueError", "ValueError.__new__", "ValueError.__init__", _, PySem.F.excBase_ValueError, PySem.F.store_ValueError.passes, by decide +kernel, nm_BadItem, qn_BadItem, NS_BadItem, bs_BadItem, sn_BadItem, sub_BadItem, ab_BadItem, col_BadItem, dd_BadItem, m0_BadItem, m1_BadItem, m2_BadItem, m3_BadItem, m5_BadItem, ex_BadItem⟩, esa_BadItem, ega_BadItem, egg_BadItem, enf_BadItem, ekC_BadItem, eeC_BadItem, etC_BadItem, ehC_BadItem, eiC_BadItem, esC_BadItem⟩
  have FI_BadItem := fun_mk (st := inClass (topS 6) 0) eli_BadItem eci_BadItem eki_BadItem
  have bI_BadItem := FI_BadItem.binds (ps := ["self", "index"]) fun _ _ _ _ _ _ us hl => match us, hl with | [_, _], _ => rfl
  have EF_BadOrder : ErrG K (cm "BadOrder") "order" := ⟨⟨"ValueError", "ValueError.__new__", "ValueError.__init__", _, PySem.F.excBase_ValueError, PySem.F.store_ValueError.passes, by decide +kernel, nm_BadOrder, qn_BadOrder, NS_BadOrder, bs_BadOrder, sn_BadOrder, sub_BadOrder, ab_BadOrder, col_BadOrder, dd_BadOrder, m0_BadOrder, m1_BadOrder, m2_BadOrder, m3_BadOrder, m5_BadOrder, ex_BadOrder⟩, esa_BadOrder, ega_BadOrder, egg_BadOrder, enf_BadOrder, ekC_BadOrder, eeC_BadOrder, etC_BadOrder, ehC_BadOrder, eiC_BadOrder, esC_BadOrder⟩
  have FI_BadOrder := fun_mk (st := inClass (topS 7) 0) eli_BadOrder eci_BadOrder eki_BadOrder
  have bI_BadOrder := FI_BadOrder.binds (ps := ["self", "order"]) fun _ _ _ _ _ _ us hl => match us, hl with | [_, _], _ => rfl
  have EF_BadTest : ErrG K (cm "BadTest") "test" := ⟨⟨"ValueError", "ValueError.__new__", "ValueError.__init__", _, PySem.F.excBase_ValueError, PySem.F.store_ValueError.passes, by decide +kernel, nm_BadTest, qn_BadTest, NS_BadTest, bs_BadTest, sn_BadTest, sub_BadTest, ab_BadTest, col_BadTest, dd_BadTest, m0_BadTest, m1_BadTest, m2_BadTest, m3_BadTest, m5_BadTest, ex_BadTest⟩, esa_BadTest, ega_BadTest, egg_BadTest, enf_BadTest, ekC_BadTest, eeC_BadTest, etC_BadTest, ehC_BadTest, eiC_BadTest, esC_BadTest⟩
  have FI_BadTest := fun_mk (st := inClass (topS 8) 0) eli_BadTest eci_BadTest eki_BadTest
  have bI_BadTest := FI_BadTest.binds (ps := ["self", "test"]) fun _ _ _ _ _ _ us hl => match us, hl with | [_, _], _ => rfl
  have EF_BadDeed : ErrG K (cm "BadDeed") "deed" := ⟨⟨"ValueError", "ValueError.__new__", "ValueError.__init__", _, PySem.F.excBase_ValueError, PySem.F.store_ValueError.passes, by decide +kernel, nm_BadDeed, qn_BadDeed, NS_BadDeed, bs_BadDeed, sn_BadDeed, sub_BadDeed, ab_BadDeed, col_BadDeed, dd_BadDeed, m0_BadDeed, m1_BadDeed, m2_BadDeed, m3_BadDeed, m5_BadDeed, ex_BadDeed⟩, esa_BadDeed, ega_BadDeed, egg_BadDeed, enf_BadDeed, ekC_BadDeed, eeC_BadDeed, etC_BadDeed, ehC_BadDeed, eiC_BadDeed, esC_BadDeed⟩
  have FI_BadDeed := fun_mk (st := inClass (topS 9) 0) eli_BadDeed eci_BadDeed eki_BadDeed
  have bI_BadDeed := FI_BadDeed.binds (ps := ["self", "deed"]) fun _ _ _ _ _ _ us hl => match us, hl with | [_, _], _ => rfl
  have EF_BadRule : ErrG K (cm "BadRule") "rule" := ⟨⟨"ValueError", "ValueError.__new__", "ValueError.__init__", _, PySem.F.excBase_ValueError, PySem.F.store_ValueError.passes, by decide +kernel, nm_BadRule, qn_BadRule, NS_BadRule, bs_BadRule, sn_BadRule, sub_BadRule, ab_BadRule, col_BadRule, dd_BadRule, m0_BadRule, m1_BadRule, m2_BadRule, m3_BadRule, m5_BadRule, ex_BadRule⟩, esa_BadRule, ega_BadRule, egg_BadRule, enf_BadRule, ekC_BadRule, eeC_BadRule, etC_BadRule, ehC_BadRule, eiC_BadRule, esC_BadRule⟩
  have FI_BadRule := fun_mk (st := inClass (topS 10) 0) eli_BadRule eci_BadRule eki_BadRule
  have bI_BadRule := FI_BadRule.binds (ps := ["self", "rule"]) fun _ _ _ _ _ _ us hl => match us, hl with | [_, _], _ => rfl
  have EF_BadUse : ErrG K (cm "BadUse") "place" := ⟨⟨"ValueError", "ValueError.__new__", "ValueError.__init__", _, PySem.F.excBase_ValueError, PySem.F.store_ValueError.passes, by decide +kernel, nm_BadUse, qn_BadUse, NS_BadUse, bs_BadUse, sn_BadUse, sub_BadUse, ab_BadUse, col_BadUse, dd_BadUse, m0_BadUse, m1_BadUse, m2_BadUse, m3_BadUse, m5_BadUse, ex_BadUse⟩, esa_BadUse, ega_BadUse, egg_BadUse, enf_BadUse, ekC_BadUse, eeC_BadUse, etC_BadUse, ehC_BadUse, eiC_BadUse, esC_BadUse⟩
  have FI_BadUse := fun_mk (st := inClass (topS 11) 0) eli_BadUse eci_BadUse eki_BadUse
  have bI_BadUse := FI_BadUse.binds (ps := ["self", "place"]) fun _ _ _ _ _ _ us hl => match us, hl with | [_, _], _ => rfl
  have EF_BadWish : ErrG K (cm "BadWish") "word" := ⟨⟨"ValueError", "ValueError.__new__", "ValueError.__init__", _, PySem.F.excBase_ValueError, PySem.F.store_ValueError.passes, by decide +kernel, nm_BadWish, qn_BadWish, NS_BadWish, bs_BadWish, sn_BadWish, sub_BadWish, ab_BadWish, col_BadWish, dd_BadWish, m0_BadWish, m1_BadWish, m2_BadWish, m3_BadWish, m5_BadWish, ex_BadWish⟩, esa_BadWish, ega_BadWish, egg_BadWish, enf_BadWish, ekC_BadWish, eeC_BadWish, etC_BadWish, ehC_BadWish, eiC_BadWish, esC_BadWish⟩
  have FI_BadWish := fun_mk (st := inClass (topS 12) 0) eli_BadWish eci_BadWish eki_BadWish
  have bI_BadWish := FI_BadWish.binds (ps := ["self", "word"]) fun _ _ _ _ _ _ us hl => match us, hl with | [_, _], _ => rfl
  have EF_BadOption : ErrG K (cm "BadOption") "option" := ⟨⟨"ValueError", "ValueError.__new__", "ValueError.__init__", _, PySem.F.excBase_ValueError, PySem.F.store_ValueError.passes, by decide +kernel, nm_BadOption, qn_BadOption, NS_BadOption, bs_BadOption, sn_BadOption, sub_BadOption, ab_BadOption, col_BadOption, dd_BadOption, m0_BadOption, m1_BadOption, m2_BadOption, m3_BadOption, m5_BadOption, ex_BadOption⟩, esa_BadOption, ega_BadOption, egg_BadOption, enf_BadOption, ekC_BadOption, eeC_BadOption, etC_BadOption, ehC_BadOption, eiC_BadOption, esC_BadOption⟩
  have FI_BadOption := fun_mk (st := inClass (topS 13) 0) eli_BadOption eci_BadOption eki_BadOption
  have bI_BadOption := FI_BadOption.binds (ps := ["self", "option"]) fun _ _ _ _ _ _ us hl => match us, hl with | [_, _], _ => rfl
  have EF_BadSweep : ErrG K (cm "BadSweep") "word" := ⟨⟨"ValueError", "ValueError.__new__", "ValueError.__init__", _, PySem.F.excBase_ValueError, PySem.F.store_ValueError.passes, by decide +kernel, nm_BadSweep, qn_BadSweep, NS_BadSweep, bs_BadSweep, sn_BadSweep, sub_BadSweep, ab_BadSweep, col_BadSweep, dd_BadSweep, m0_BadSweep, m1_BadSweep, m2_BadSweep, m3_BadSweep, m5_BadSweep, ex_BadSweep⟩, esa_BadSweep, ega_BadSweep, egg_BadSweep, enf_BadSweep, ekC_BadSweep, eeC_BadSweep, etC_BadSweep, ehC_BadSweep, eiC_BadSweep, esC_BadSweep⟩
  have FI_BadSweep := fun_mk (st := inClass (topS 14) 0) eli_BadSweep eci_BadSweep eki_BadSweep
  have bI_BadSweep := FI_BadSweep.binds (ps := ["self", "word"]) fun _ _ _ _ _ _ us hl => match us, hl with | [_, _], _ => rfl
  have EF_BadLevel : ErrG K (cm "BadLevel") "level" := ⟨⟨"ValueError", "ValueError.__new__", "ValueError.__init__", _, PySem.F.excBase_ValueError, PySem.F.store_ValueError.passes, by decide +kernel, nm_BadLevel, qn_BadLevel, NS_BadLevel, bs_BadLevel, sn_BadLevel, sub_BadLevel, ab_BadLevel, col_BadLevel, dd_BadLevel, m0_BadLevel, m1_BadLevel, m2_BadLevel, m3_BadLevel, m5_BadLevel, ex_BadLevel⟩, esa_BadLevel, ega_BadLevel, egg_BadLevel, enf_BadLevel, ekC_BadLevel, eeC_BadLevel, etC_BadLevel, ehC_BadLevel, eiC_BadLevel, esC_BadLevel⟩
  have FI_BadLevel := fun_mk (st := inClass (topS 15) 0) eli_BadLevel eci_BadLevel eki_BadLevel
  have bI_BadLevel := FI_BadLevel.binds (ps := ["self", "level"]) fun _ _ _ _ _ _ us hl => match us, hl with | [_, _], _ => rfl
  have EF_BadDay : ErrG K (cm "BadDay") "day" := ⟨⟨"ValueError", "ValueError.__new__", "ValueError.__init__", _, PySem.F.excBase_ValueError, PySem.F.store_ValueError.passes, by decide +kernel, nm_BadDay, qn_BadDay, NS_BadDay, bs_BadDay, sn_BadDay, sub_BadDay, ab_BadDay, col_BadDay, dd_BadDay, m0_BadDay, m1_BadDay, m2_BadDay, m3_BadDay, m5_BadDay, ex_BadDay⟩, esa_BadDay, ega_BadDay, egg_BadDay, enf_BadDay, ekC_BadDay, eeC_BadDay, etC_BadDay, ehC_BadDay, eiC_BadDay, esC_BadDay⟩
  have FI_BadDay := fun_mk (st := inClass (topS 16) 0) eli_BadDay eci_BadDay eki_BadDay
  have bI_BadDay := FI_BadDay.binds (ps := ["self", "day"]) fun _ _ _ _ _ _ us hl => match us, hl with | [_, _], _ => rfl
  have EF_BadColumns : ErrG K (cm "BadColumns") "columns" := ⟨⟨"ValueError", "ValueError.__new__", "ValueError.__init__", _, PySem.F.excBase_ValueError, PySem.F.store_ValueError.passes, by decide +kernel, nm_BadColumns, qn_BadColumns, NS_BadColumns, bs_BadColumns, sn_BadColumns, sub_BadColumns, ab_BadColumns, col_BadColumns, dd_BadColumns, m0_BadColumns, m1_BadColumns, m2_BadColumns, m3_BadColumns, m5_BadColumns, ex_BadColumns⟩, esa_BadColumns, ega_BadColumns, egg_BadColumns, enf_BadColumns, ekC_BadColumns, eeC_BadColumns, etC_BadColumns, ehC_BadColumns, eiC_BadColumns, esC_BadColumns⟩
  have FI_BadColumns := fun_mk (st := inClass (topS 17) 0) eli_BadColumns eci_BadColumns eki_BadColumns
  have bI_BadColumns := FI_BadColumns.binds (ps := ["self", "columns"]) fun _ _ _ _ _ _ us hl => match us, hl with | [_, _], _ => rfl
  have EF_BadText : ErrG K (cm "BadText") "line" := ⟨⟨"ValueError", "ValueError.__new__", "ValueError.__init__", _, PySem.F.excBase_ValueError, PySem.F.store_ValueError.passes, by decide +kernel, nm_BadText, qn_BadText, NS_BadText, bs_BadText, sn_BadText, sub_BadText, ab_BadText, col_BadText, dd_BadText, m0_BadText, m1_BadText, m2_BadText, m3_BadText, m5_BadText, ex_BadText⟩, esa_BadText, ega_BadText, egg_BadText, enf_BadText, ekC_BadText, eeC_BadText, etC_BadText, ehC_BadText, eiC_BadText, esC_BadText⟩
  have FI_BadText := fun_mk (st := inClass (topS 18) 0) eli_BadText eci_BadText eki_BadText
  have bI_BadText := FI_BadText.binds (ps := ["self", "line"]) fun _ _ _ _ _ _ us hl => match us, hl with | [_, _], _ => rfl
  have EF_BadCommand : ErrG K (cm "BadCommand") "command" := ⟨⟨"ValueError", "ValueError.__new__", "ValueError.__init__", _, PySem.F.excBase_ValueError, PySem.F.store_ValueError.passes, by decide +kernel, nm_BadCommand, qn_BadCommand, NS_BadCommand, bs_BadCommand, sn_BadCommand, sub_BadCommand, ab_BadCommand, col_BadCommand, dd_BadCommand, m0_BadCommand, m1_BadCommand, m2_BadCommand, m3_BadCommand, m5_BadCommand, ex_BadCommand⟩, esa_BadCommand, ega_BadCommand, egg_BadCommand, enf_BadCommand, ekC_BadCommand, eeC_BadCommand, etC_BadCommand, ehC_BadCommand, eiC_BadCommand, esC_BadCommand⟩
  have FI_BadCommand := fun_mk (st := inClass (topS 19) 0) eli_BadCommand eci_BadCommand eki_BadCommand
  have bI_BadCommand := FI_BadCommand.binds (ps := ["self", "command"]) fun _ _ _ _ _ _ us hl => match us, hl with | [_, _], _ => rfl
  have EF_NoOption : ErrG K (cm "NoOption") "option" := ⟨⟨"LookupError", "LookupError.__new__", "LookupError.__init__", _, PySem.F.excBase_LookupError, PySem.F.store_LookupError.passes, by decide +kernel, nm_NoOption, qn_NoOption, NS_NoOption, bs_NoOption, sn_NoOption, sub_NoOption, ab_NoOption, col_NoOption, dd_NoOption, m0_NoOption, m1_NoOption, m2_NoOption, m3_NoOption, m5_NoOption, ex_NoOption⟩, esa_NoOption, ega_NoOption, egg_NoOption, enf_NoOption, ekC_NoOption, eeC_NoOption, etC_NoOption, ehC_NoOption, eiC_NoOption, esC_NoOption⟩
  have FI_NoOption := fun_mk (st := inClass (topS 20) 0) eli_NoOption eci_NoOption eki_NoOption
  have bI_NoOption := FI_NoOption.binds (ps := ["self", "option"]) fun _ _ _ _ _ _ us hl => match us, hl with | [_, _], _ => rfl
  have EF_NoRow : ErrG K (cm "NoRow") "row" := ⟨⟨"LookupError", "LookupError.__new__", "LookupError.__init__", _, PySem.F.excBase_LookupError, PySem.F.store_LookupError.passes, by decide +kernel, nm_NoRow, qn_NoRow, NS_NoRow, bs_NoRow, sn_NoRow, sub_NoRow, ab_NoRow, col_NoRow, dd_NoRow, m0_NoRow, m1_NoRow, m2_NoRow, m3_NoRow, m5_NoRow, ex_NoRow⟩, esa_NoRow, ega_NoRow, egg_NoRow, enf_NoRow, ekC_NoRow, eeC_NoRow, etC_NoRow, ehC_NoRow, eiC_NoRow, esC_NoRow⟩
  have FI_NoRow := fun_mk (st := inClass (topS 21) 0) eli_NoRow eci_NoRow eki_NoRow
  have bI_NoRow := FI_NoRow.binds (ps := ["self", "row"]) fun _ _ _ _ _ _ us hl => match us, hl with | [_, _], _ => rfl
  have EF_NoSpan : ErrG K (cm "NoSpan") "index" := ⟨⟨"LookupError", "LookupError.__new__", "LookupError.__init__", _, PySem.F.excBase_LookupError, PySem.F.store_LookupError.passes, by decide +kernel, nm_NoSpan, qn_NoSpan, NS_NoSpan, bs_NoSpan, sn_NoSpan, sub_NoSpan, ab_NoSpan, col_NoSpan, dd_NoSpan, m0_NoSpan, m1_NoSpan, m2_NoSpan, m3_NoSpan, m5_NoSpan, ex_NoSpan⟩, esa_NoSpan, ega_NoSpan, egg_NoSpan, enf_NoSpan, ekC_NoSpan, eeC_NoSpan, etC_NoSpan, ehC_NoSpan, eiC_NoSpan, esC_NoSpan⟩
  have FI_NoSpan := fun_mk (st := inClass (topS 22) 0) eli_NoSpan eci_NoSpan eki_NoSpan
  have bI_NoSpan := FI_NoSpan.binds (ps := ["self", "index"]) fun _ _ _ _ _ _ us hl => match us, hl with | [_, _], _ => rfl
  have EF_NoName : ErrG K (cm "NoName") "name" := ⟨⟨"LookupError", "LookupError.__new__", "LookupError.__init__", _, PySem.F.excBase_LookupError, PySem.F.store_LookupError.passes, by decide +kernel, nm_NoName, qn_NoName, NS_NoName, bs_NoName, sn_NoName, sub_NoName, ab_NoName, col_NoName, dd_NoName, m0_NoName, m1_NoName, m2_NoName, m3_NoName, m5_NoName, ex_NoName⟩, esa_NoName, ega_NoName, egg_NoName, enf_NoName, ekC_NoName, eeC_NoName, etC_NoName, ehC_NoName, eiC_NoName, esC_NoName⟩
  have FI_NoName := fun_mk (st := inClass (topS 23) 0) eli_NoName eci_NoName eki_NoName
  have bI_NoName := FI_NoName.binds (ps := ["self", "name"]) fun _ _ _ _ _ _ us hl => match us, hl with | [_, _], _ => rfl
  have EF_TooMany : ErrG K (cm "TooMany") "limit" := ⟨⟨"OverflowError", "OverflowError.__new__", "OverflowError.__init__", _, PySem.F.excBase_OverflowError, PySem.F.store_OverflowError.passes, by decide +kernel, nm_TooMany, qn_TooMany, NS_TooMany, bs_TooMany, sn_TooMany, sub_TooMany, ab_TooMany, col_TooMany, dd_TooMany, m0_TooMany, m1_TooMany, m2_TooMany, m3_TooMany, m5_TooMany, ex_TooMany⟩, esa_TooMany, ega_TooMany, egg_TooMany, enf_TooMany, ekC_TooMany, eeC_TooMany, etC_TooMany, ehC_TooMany, eiC_TooMany, esC_TooMany⟩
  have FI_TooMany := fun_mk (st := inClass (topS 24) 0) eli_TooMany eci_TooMany eki_TooMany
  have bI_TooMany := FI_TooMany.binds (ps := ["self", "limit"]) fun _ _ _ _ _ _ us hl => match us, hl with | [_, _], _ => rfl
  have EF_TooWide : ErrG K (cm "TooWide") "limit" := ⟨⟨"OverflowError", "OverflowError.__new__", "OverflowError.__init__", _, PySem.F.excBase_OverflowError, PySem.F.store_OverflowError.passes, by decide +kernel, nm_TooWide, qn_TooWide, NS_TooWide, bs_TooWide, sn_TooWide, sub_TooWide, ab_TooWide, col_TooWide, dd_TooWide, m0_TooWide, m1_TooWide, m2_TooWide, m3_TooWide, m5_TooWide, ex_TooWide⟩, esa_TooWide, ega_TooWide, egg_TooWide, enf_TooWide, ekC_TooWide, eeC_TooWide, etC_TooWide, ehC_TooWide, eiC_TooWide, esC_TooWide⟩
  have FI_TooWide := fun_mk (st := inClass (topS 25) 0) eli_TooWide eci_TooWide eki_TooWide
  have bI_TooWide := FI_TooWide.binds (ps := ["self", "limit"]) fun _ _ _ _ _ _ us hl => match us, hl with | [_, _], _ => rfl
  have EF_TooFar : ErrG K (cm "TooFar") "edge" := ⟨⟨"OverflowError", "OverflowError.__new__", "OverflowError.__init__", _, PySem.F.excBase_OverflowError, PySem.F.store_OverflowError.passes, by decide +kernel, nm_TooFar, qn_TooFar, NS_TooFar, bs_TooFar, sn_TooFar, sub_TooFar, ab_TooFar, col_TooFar, dd_TooFar, m0_TooFar, m1_TooFar, m2_TooFar, m3_TooFar, m5_TooFar, ex_TooFar⟩, esa_TooFar, ega_TooFar, egg_TooFar, enf_TooFar, ekC_TooFar, eeC_TooFar, etC_TooFar, ehC_TooFar, eiC_TooFar, esC_TooFar⟩
  have FI_TooFar := fun_mk (st := inClass (topS 26) 0) eli_TooFar eci_TooFar eki_TooFar
  have bI_TooFar := FI_TooFar.binds (ps := ["self", "edge"]) fun _ _ _ _ _ _ us hl => match us, hl with | [_, _], _ => rfl
  have EF_Endless : ErrG K (cm "Endless") "span" := ⟨⟨"OverflowError", "OverflowError.__new__", "OverflowError.__init__", _, PySem.F.excBase_OverflowError, PySem.F.store_OverflowError.passes, by decide +kernel, nm_Endless, qn_Endless, NS_Endless, bs_Endless, sn_Endless, sub_Endless, ab_Endless, col_Endless, dd_Endless, m0_Endless, m1_Endless, m2_Endless, m3_Endless, m5_Endless, ex_Endless⟩, esa_Endless, ega_Endless, egg_Endless, enf_Endless, ekC_Endless, eeC_Endless, etC_Endless, ehC_Endless, eiC_Endless, esC_Endless⟩
  have FI_Endless := fun_mk (st := inClass (topS 27) 0) eli_Endless eci_Endless eki_Endless
  have bI_Endless := FI_Endless.binds (ps := ["self", "span"]) fun _ _ _ _ _ _ us hl => match us, hl with | [_, _], _ => rfl
  have EF_NoWindow : ErrG K (cm "NoWindow") "user" := ⟨⟨"RuntimeError", "RuntimeError.__new__", "RuntimeError.__init__", _, PySem.F.excBase_RuntimeError, PySem.F.store_RuntimeError.passes, by decide +kernel, nm_NoWindow, qn_NoWindow, NS_NoWindow, bs_NoWindow, sn_NoWindow, sub_NoWindow, ab_NoWindow, col_NoWindow, dd_NoWindow, m0_NoWindow, m1_NoWindow, m2_NoWindow, m3_NoWindow, m5_NoWindow, ex_NoWindow⟩, esa_NoWindow, ega_NoWindow, egg_NoWindow, enf_NoWindow, ekC_NoWindow, eeC_NoWindow, etC_NoWindow, ehC_NoWindow, eiC_NoWindow, esC_NoWindow⟩
  have FI_NoWindow := fun_mk (st := inClass (topS 28) 0) eli_NoWindow eci_NoWindow eki_NoWindow
  have bI_NoWindow := FI_NoWindow.binds (ps := ["self", "user"]) fun _ _ _ _ _ _ us hl => match us, hl with | [_, _], _ => rfl
  have EF_Unfit : ErrG K (cm "Unfit") "wish" := ⟨⟨"RuntimeError", "RuntimeError.__new__", "RuntimeError.__init__", _, PySem.F.excBase_RuntimeError, PySem.F.store_RuntimeError.passes, by decide +kernel, nm_Unfit, qn_Unfit, NS_Unfit, bs_Unfit, sn_Unfit, sub_Unfit, ab_Unfit, col_Unfit, dd_Unfit, m0_Unfit, m1_Unfit, m2_Unfit, m3_Unfit, m5_Unfit, ex_Unfit⟩, esa_Unfit, ega_Unfit, egg_Unfit, enf_Unfit, ekC_Unfit, eeC_Unfit, etC_Unfit, ehC_Unfit, eiC_Unfit, esC_Unfit⟩
  have FI_Unfit := fun_mk (st := inClass (topS 29) 0) eli_Unfit eci_Unfit eki_Unfit
  have bI_Unfit := FI_Unfit.binds (ps := ["self", "wish"]) fun _ _ _ _ _ _ us hl => match us, hl with | [_, _], _ => rfl
  have KI : Kits K mg cm := ⟨xi_of (List.forall_mem_cons.mpr ⟨⟨EF_BadEdge.excC xha_BadEdge ic_n ic_t xhm_BadEdge, kit_bin (by decide +kernel) xps_BadEdge_ValueError⟩, List.forall_mem_cons.mpr ⟨⟨EF_BadSpan.excC xha_BadSpan ic_n ic_t xhm_BadSpan, kit_bin (by decide +kernel) xps_BadSpan_ValueError⟩, List.forall_mem_cons.mpr ⟨⟨EF_BadWindow.excC xha_BadWindow ic_n ic_t xhm_BadWindow, kit_bin (by decide +kernel) xps_BadWindow_ValueError⟩, List.forall_mem_cons.mpr ⟨⟨EF_BadMoment.excC xha_BadMoment ic_n ic_t xhm_BadMoment, kit_bin (by decide +kernel) xps_BadMoment_ValueError⟩, List.forall_mem_cons.mpr ⟨⟨EF_BadEnds.excC xha_BadEnds ic_n ic_t xhm_BadEnds, kit_bin (by decide +kernel) xps_BadEnds_ValueError⟩, List.forall_mem_cons.mpr ⟨⟨EF_BadItem.excC xha_BadItem ic_n ic_t xhm_BadItem, kit_bin (by decide +kernel) xps_BadItem_ValueError⟩, List.forall_mem_cons.mpr ⟨⟨EF_BadOrder.excC xha_BadOrder ic_n ic_t xhm_BadOrder, kit_bin (by decide +kernel) xps_BadOrder_ValueError⟩, List.forall_mem_cons.mpr ⟨⟨EF_BadTest.excC xha_BadTest ic_n ic_t xhm_BadTest, kit_bin (by decide +kernel) xps_BadTest_ValueError⟩, List.forall_mem_cons.mpr ⟨⟨EF_BadDeed.excC xha_BadDeed ic_n ic_t xhm_BadDeed, kit_bin (by decide +kernel) xps_BadDeed_ValueError⟩, List.forall_mem_cons.mpr ⟨⟨EF_BadRule.excC xha_BadRule ic_n ic_t xhm_BadRule, kit_bin (by decide +kernel) xps_BadRule_ValueError⟩, List.forall_mem_cons.mpr ⟨⟨EF_BadUse.excC xha_BadUse ic_n ic_t xhm_BadUse, kit_bin (by decide +kernel) xps_BadUse_ValueError⟩, List.forall_mem_cons.mpr ⟨⟨EF_BadWish.excC xha_BadWish ic_n ic_t xhm_BadWish, kit_bin (by decide +kernel) xps_BadWish_ValueError⟩, List.forall_mem_cons.mpr ⟨⟨EF_BadOption.excC xha_BadOption ic_n ic_t xhm_BadOption, kit_bin (by decide +kernel) xps_BadOption_ValueError⟩, List.forall_mem_cons.mpr ⟨⟨EF_BadSweep.excC xha_BadSweep ic_n ic_t xhm_BadSweep, kit_bin (by decide +kernel) xps_BadSweep_ValueError⟩, List.forall_mem_cons.mpr ⟨⟨EF_BadLevel.excC xha_BadLevel ic_n ic_t xhm_BadLevel, kit_bin (by decide +kernel) xps_BadLevel_ValueError⟩, List.forall_mem_cons.mpr ⟨⟨EF_BadDay.excC xha_BadDay ic_n ic_t xhm_BadDay, kit_bin (by decide +kernel) xps_BadDay_ValueError⟩, List.forall_mem_cons.mpr ⟨⟨EF_BadColumns.excC xha_BadColumns ic_n ic_t xhm_BadColumns, kit_bin (by decide +kernel) xps_BadColumns_ValueError⟩, List.forall_mem_cons.mpr ⟨⟨EF_BadText.excC xha_BadText ic_n ic_t xhm_BadText, kit_bin (by decide +kernel) xps_BadText_ValueError⟩, List.forall_mem_cons.mpr ⟨⟨EF_BadCommand.excC xha_BadCommand ic_n ic_t xhm_BadCommand, kit_bin (by decide +kernel) xps_BadCommand_ValueError⟩, List.forall_mem_cons.mpr ⟨⟨EF_NoOption.excC xha_NoOption ic_n ic_t xhm_NoOption, kit_bin (by decide +kernel) xps_NoOption_ValueError⟩, List.forall_mem_cons.mpr ⟨⟨EF_NoRow.excC xha_NoRow ic_n ic_t xhm_NoRow, kit_bin (by decide +kernel) xps_NoRow_ValueError⟩, List.forall_mem_cons.mpr ⟨⟨EF_NoSpan.excC xha_NoSpan ic_n ic_t xhm_NoSpan, kit_bin (by decide +kernel) xps_NoSpan_ValueError⟩, List.forall_mem_cons.mpr ⟨⟨EF_NoName.excC xha_NoName ic_n ic_t xhm_NoName, kit_bin (by decide +kernel) xps_NoName_ValueError⟩, List.forall_mem_cons.mpr ⟨⟨EF_TooMany.excC xha_TooMany ic_n ic_t xhm_TooMany, kit_bin (by decide +kernel) xps_TooMany_ValueError⟩, List.forall_mem_cons.mpr ⟨⟨EF_TooWide.excC xha_TooWide ic_n ic_t xhm_TooWide, kit_bin (by decide +kernel) xps_TooWide_ValueError⟩, List.forall_mem_cons.mpr ⟨⟨EF_TooFar.excC xha_TooFar ic_n ic_t xhm_TooFar, kit_bin (by decide +kernel) xps_TooFar_ValueError⟩, List.forall_mem_cons.mpr ⟨⟨EF_Endless.excC xha_Endless ic_n ic_t xhm_Endless, kit_bin (by decide +kernel) xps_Endless_ValueError⟩, List.forall_mem_cons.mpr ⟨⟨EF_NoWindow.excC xha_NoWindow ic_n ic_t xhm_NoWindow, kit_bin (by decide +kernel) xps_NoWindow_ValueError⟩, List.forall_mem_cons.mpr ⟨⟨EF_Unfit.excC xha_Unfit ic_n ic_t xhm_Unfit, kit_bin (by decide +kernel) xps_Unfit_ValueError⟩, fun _ z => absurd z List.not_mem_nil⟩⟩⟩⟩⟩⟩⟩⟩⟩⟩⟩⟩⟩⟩⟩⟩⟩⟩⟩⟩⟩⟩⟩⟩⟩⟩⟩⟩⟩), xi_of (List.forall_mem_cons.mpr ⟨⟨EF_BadEdge.excC xha_BadEdge ic_n ic_t xhm_BadEdge, kit_bin (by decide +kernel) xps_BadEdge_LookupError⟩, List.forall_mem_cons.mpr ⟨⟨EF_BadSpan.excC xha_BadSpan ic_n ic_t xhm_BadSpan, kit_bin (by decide +kernel) xps_BadSpan_LookupError⟩, List.forall_mem_cons.mpr ⟨⟨EF_BadWindow.excC xha_BadWindow ic_n ic_t xhm_BadWindow, kit_bin (by decide +kernel) xps_BadWindow_LookupError⟩, List.forall_mem_cons.mpr ⟨⟨EF_BadMoment.excC xha_BadMoment ic_n ic_t xhm_BadMoment, kit_bin (by decide +kernel) xps_BadMoment_LookupError⟩, List.forall_mem_cons.mpr ⟨⟨EF_BadEnds.excC xha_BadEnds ic_n ic_t xhm_BadEnds, kit_bin (by decide +kernel) xps_BadEnds_LookupError⟩, List.forall_mem_cons.mpr ⟨⟨EF_BadItem.excC xha_BadItem ic_n ic_t xhm_BadItem, kit_bin (by decide +kernel) xps_BadItem_LookupError⟩, List.forall_mem_cons.mpr ⟨⟨EF_BadOrder.excC xha_BadOrder ic_n ic_t xhm_BadOrder, kit_bin (by decide +kernel) xps_BadOrder_LookupError⟩, List.forall_mem_cons.mpr ⟨⟨EF_BadTest.excC xha_BadTest ic_n ic_t xhm_BadTest, kit_bin (by decide +kernel) xps_BadTest_LookupError⟩, List.forall_mem_cons.mpr ⟨⟨EF_BadDeed.excC xha_BadDeed ic_n ic_t xhm_BadDeed, kit_bin (by decide +kernel) xps_BadDeed_LookupError⟩, List.forall_mem_cons.mpr ⟨⟨EF_BadRule.excC xha_BadRule ic_n ic_t xhm_BadRule, kit_bin (by decide +kernel) xps_BadRule_LookupError⟩, List.forall_mem_cons.mpr ⟨⟨EF_BadUse.excC xha_BadUse ic_n ic_t xhm_BadUse, kit_bin (by decide +kernel) xps_BadUse_LookupError⟩, List.forall_mem_cons.mpr ⟨⟨EF_BadWish.excC xha_BadWish ic_n ic_t xhm_BadWish, kit_bin (by decide +kernel) xps_BadWish_LookupError⟩, List.forall_mem_cons.mpr ⟨⟨EF_BadOption.excC xha_BadOption ic_n ic_t xhm_BadOption, kit_bin (by decide +kernel) xps_BadOption_LookupError⟩, List.forall_mem_cons.mpr ⟨⟨EF_BadSweep.excC xha_BadSweep ic_n ic_t xhm_BadSweep, kit_bin (by decide +kernel) xps_BadSweep_LookupError⟩, List.forall_mem_cons.mpr ⟨⟨EF_BadLevel.excC xha_BadLevel ic_n ic_t xhm_BadLevel, kit_bin (by decide +kernel) xps_BadLevel_LookupError⟩, List.forall_mem_cons.mpr ⟨⟨EF_BadDay.excC xha_BadDay ic_n ic_t xhm_BadDay, kit_bin (by decide +kernel) xps_BadDay_LookupError⟩, List.forall_mem_cons.mpr ⟨⟨EF_BadColumns.excC xha_BadColumns ic_n ic_t xhm_BadColumns, kit_bin (by decide +kernel) xps_BadColumns_LookupError⟩, List.forall_mem_cons.mpr ⟨⟨EF_BadText.excC xha_BadText ic_n ic_t xhm_BadText, kit_bin (by decide +kernel) xps_BadText_LookupError⟩, List.forall_mem_cons.mpr ⟨⟨EF_BadCommand.excC xha_BadCommand ic_n ic_t xhm_BadCommand, kit_bin (by decide +kernel) xps_BadCommand_LookupError⟩, List.forall_mem_cons.mpr ⟨⟨EF_NoOption.excC xha_NoOption ic_n ic_t xhm_NoOption, kit_bin (by decide +kernel) xps_NoOption_LookupError⟩, List.forall_mem_cons.mpr ⟨⟨EF_NoRow.excC xha_NoRow ic_n ic_t xhm_NoRow, kit_bin (by decide +kernel) xps_NoRow_LookupError⟩, List.forall_mem_cons.mpr ⟨⟨EF_NoSpan.excC xha_NoSpan ic_n ic_t xhm_NoSpan, kit_bin (by decide +kernel) xps_NoSpan_LookupError⟩, List.forall_mem_cons.mpr ⟨⟨EF_NoName.excC xha_NoName ic_n ic_t xhm_NoName, kit_bin (by decide +kernel) xps_NoName_LookupError⟩, List.forall_mem_cons.mpr ⟨⟨EF_TooMany.excC xha_TooMany ic_n ic_t xhm_TooMany, kit_bin (by decide +kernel) xps_TooMany_LookupError⟩, List.forall_mem_cons.mpr ⟨⟨EF_TooWide.excC xha_TooWide ic_n ic_t xhm_TooWide, kit_bin (by decide +kernel) xps_TooWide_LookupError⟩, List.forall_mem_cons.mpr ⟨⟨EF_TooFar.excC xha_TooFar ic_n ic_t xhm_TooFar, kit_bin (by decide +kernel) xps_TooFar_LookupError⟩, List.forall_mem_cons.mpr ⟨⟨EF_Endless.excC xha_Endless ic_n ic_t xhm_Endless, kit_bin (by decide +kernel) xps_Endless_LookupError⟩, List.forall_mem_cons.mpr ⟨⟨EF_NoWindow.excC xha_NoWindow ic_n ic_t xhm_NoWindow, kit_bin (by decide +kernel) xps_NoWindow_LookupError⟩, List.forall_mem_cons.mpr ⟨⟨EF_Unfit.excC xha_Unfit ic_n ic_t xhm_Unfit, kit_bin (by decide +kernel) xps_Unfit_LookupError⟩, fun _ z => absurd z List.not_mem_nil⟩⟩⟩⟩⟩⟩⟩⟩⟩⟩⟩⟩⟩⟩⟩⟩⟩⟩⟩⟩⟩⟩⟩⟩⟩⟩⟩⟩⟩), xi_of (List.forall_mem_cons.mpr ⟨⟨EF_BadEdge.excC xha_BadEdge ic_n ic_t xhm_BadEdge, kit_bin (by decide +kernel) xps_BadEdge_OverflowError⟩, List.forall_mem_cons.mpr ⟨⟨EF_BadSpan.excC xha_BadSpan ic_n ic_t xhm_BadSpan, kit_bin (by decide +kernel) xps_BadSpan_OverflowError⟩, List.forall_mem_cons.mpr ⟨⟨EF_BadWindow.excC xha_BadWindow ic_n ic_t xhm_BadWindow, kit_bin (by decide +kernel) xps_BadWindow_OverflowError⟩, List.forall_mem_cons.mpr ⟨⟨EF_BadMoment.excC xha_BadMoment ic_n ic_t xhm_BadMoment, kit_bin (by decide +kernel) xps_BadMoment_OverflowError⟩, List.forall_mem_cons.mpr ⟨⟨EF_BadEnds.excC xha_BadEnds ic_n ic_t xhm_BadEnds, kit_bin (by decide +kernel) xps_BadEnds_OverflowError⟩, List.forall_mem_cons.mpr ⟨⟨EF_BadItem.excC xha_BadItem ic_n ic_t xhm_BadItem, kit_bin (by decide +kernel) xps_BadItem_OverflowError⟩, List.forall_mem_cons.mpr ⟨⟨EF_BadOrder.excC xha_BadOrder ic_n ic_t xhm_BadOrder, kit_bin (by decide +kernel) xps_BadOrder_OverflowError⟩, List.forall_mem_cons.mpr ⟨⟨EF_BadTest.excC xha_BadTest ic_n ic_t xhm_BadTest, kit_bin (by decide +kernel) xps_BadTest_OverflowError⟩, List.forall_mem_cons.mpr ⟨⟨EF_BadDeed.excC xha_BadDeed ic_n ic_t xhm_BadDeed, kit_bin (by decide +kernel) xps_BadDeed_OverflowError⟩, List.forall_mem_cons.mpr ⟨⟨EF_BadRule.excC xha_BadRule ic_n ic_t xhm_BadRule, kit_bin (by decide +kernel) xps_BadRule_OverflowError⟩, List.forall_mem_cons.mpr ⟨⟨EF_BadUse.excC xha_BadUse ic_n ic_t xhm_BadUse, kit_bin (by decide +kernel) xps_BadUse_OverflowError⟩, List.forall_mem_cons.mpr ⟨⟨EF_BadWish.excC xha_BadWish ic_n ic_t xhm_BadWish, kit_bin (by decide +kernel) xps_BadWish_OverflowError⟩, List.forall_mem_cons.mpr ⟨⟨EF_BadOption.excC xha_BadOption ic_n ic_t xhm_BadOption, kit_bin (by decide +kernel) xps_BadOption_OverflowError⟩, List.forall_mem_cons.mpr ⟨⟨EF_BadSweep.excC xha_BadSweep ic_n ic_t xhm_BadSweep, kit_bin (by decide +kernel) xps_BadSweep_OverflowError⟩, List.forall_mem_cons.mpr ⟨⟨EF_BadLevel.excC xha_BadLevel ic_n ic_t xhm_BadLevel, kit_bin (by decide +kernel) xps_BadLevel_OverflowError⟩, List.forall_mem_cons.mpr ⟨⟨EF_BadDay.excC xha_BadDay ic_n ic_t xhm_BadDay, kit_bin (by decide +kernel) xps_BadDay_OverflowError⟩, List.forall_mem_cons.mpr ⟨⟨EF_BadColumns.excC xha_BadColumns ic_n ic_t xhm_BadColumns, kit_bin (by decide +kernel) xps_BadColumns_OverflowError⟩, List.forall_mem_cons.mpr ⟨⟨EF_BadText.excC xha_BadText ic_n ic_t xhm_BadText, kit_bin (by decide +kernel) xps_BadText_OverflowError⟩, List.forall_mem_cons.mpr ⟨⟨EF_BadCommand.excC xha_BadCommand ic_n ic_t xhm_BadCommand, kit_bin (by decide +kernel) xps_BadCommand_OverflowError⟩, List.forall_mem_cons.mpr ⟨⟨EF_NoOption.excC xha_NoOption ic_n ic_t xhm_NoOption, kit_bin (by decide +kernel) xps_NoOption_OverflowError⟩, List.forall_mem_cons.mpr ⟨⟨EF_NoRow.excC xha_NoRow ic_n ic_t xhm_NoRow, kit_bin (by decide +kernel) xps_NoRow_OverflowError⟩, List.forall_mem_cons.mpr ⟨⟨EF_NoSpan.excC xha_NoSpan ic_n ic_t xhm_NoSpan, kit_bin (by decide +kernel) xps_NoSpan_OverflowError⟩, List.forall_mem_cons.mpr ⟨⟨EF_NoName.excC xha_NoName ic_n ic_t xhm_NoName, kit_bin (by decide +kernel) xps_NoName_OverflowError⟩, List.forall_mem_cons.mpr ⟨⟨EF_TooMany.excC xha_TooMany ic_n ic_t xhm_TooMany, kit_bin (by decide +kernel) xps_TooMany_OverflowError⟩, List.forall_mem_cons.mpr ⟨⟨EF_TooWide.excC xha_TooWide ic_n ic_t xhm_TooWide, kit_bin (by decide +kernel) xps_TooWide_OverflowError⟩, List.forall_mem_cons.mpr ⟨⟨EF_TooFar.excC xha_TooFar ic_n ic_t xhm_TooFar, kit_bin (by decide +kernel) xps_TooFar_OverflowError⟩, List.forall_mem_cons.mpr ⟨⟨EF_Endless.excC xha_Endless ic_n ic_t xhm_Endless, kit_bin (by decide +kernel) xps_Endless_OverflowError⟩, List.forall_mem_cons.mpr ⟨⟨EF_NoWindow.excC xha_NoWindow ic_n ic_t xhm_NoWindow, kit_bin (by decide +kernel) xps_NoWindow_OverflowError⟩, List.forall_mem_cons.mpr ⟨⟨EF_Unfit.excC xha_Unfit ic_n ic_t xhm_Unfit, kit_bin (by decide +kernel) xps_Unfit_OverflowError⟩, fun _ z => absurd z List.not_mem_nil⟩⟩⟩⟩⟩⟩⟩⟩⟩⟩⟩⟩⟩⟩⟩⟩⟩⟩⟩⟩⟩⟩⟩⟩⟩⟩⟩⟩⟩), xi_of (List.forall_mem_cons.mpr ⟨⟨EF_BadEdge.excC xha_BadEdge ic_n ic_t xhm_BadEdge, kit_bin (by decide +kernel) xps_BadEdge_RuntimeError⟩, List.forall_mem_cons.mpr ⟨⟨EF_BadSpan.excC xha_BadSpan ic_n ic_t xhm_BadSpan, kit_bin (by decide +kernel) xps_BadSpan_RuntimeError⟩, List.forall_mem_cons.mpr ⟨⟨EF_BadWindow.excC xha_BadWindow ic_n ic_t xhm_BadWindow, kit_bin (by decide +kernel) xps_BadWindow_RuntimeError⟩, List.forall_mem_cons.mpr ⟨⟨EF_BadMoment.excC xha_BadMoment ic_n ic_t xhm_BadMoment, kit_bin (by decide +kernel) xps_BadMoment_RuntimeError⟩, List.forall_mem_cons.mpr ⟨⟨EF_BadEnds.excC xha_BadEnds ic_n ic_t xhm_BadEnds, kit_bin (by decide +kernel) xps_BadEnds_RuntimeError⟩, List.forall_mem_cons.mpr ⟨⟨EF_BadItem.excC xha_BadItem ic_n ic_t xhm_BadItem, kit_bin (by decide +kernel) xps_BadItem_RuntimeError⟩, List.forall_mem_cons.mpr ⟨⟨EF_BadOrder.excC xha_BadOrder ic_n ic_t xhm_BadOrder, kit_bin (by decide +kernel) xps_BadOrder_RuntimeError⟩, List.forall_mem_cons.mpr ⟨⟨EF_BadTest.excC xha_BadTest ic_n ic_t xhm_BadTest, kit_bin (by decide +kernel) xps_BadTest_RuntimeError⟩, List.forall_mem_cons.mpr ⟨⟨EF_BadDeed.excC xha_BadDeed ic_n ic_t xhm_BadDeed, kit_bin (by decide +kernel) xps_BadDeed_RuntimeError⟩, List.forall_mem_cons.mpr ⟨⟨EF_BadRule.excC xha_BadRule ic_n ic_t xhm_BadRule, kit_bin (by decide +kernel) xps_BadRule_RuntimeError⟩, List.forall_mem_cons.mpr ⟨⟨EF_BadUse.excC xha_BadUse ic_n ic_t xhm_BadUse, kit_bin (by decide +kernel) xps_BadUse_RuntimeError⟩, List.forall_mem_cons.mpr ⟨⟨EF_BadWish.excC xha_BadWish ic_n ic_t xhm_BadWish, kit_bin (by decide +kernel) xps_BadWish_RuntimeError⟩, List.forall_mem_cons.mpr ⟨⟨EF_BadOption.excC xha_BadOption ic_n ic_t xhm_BadOption, kit_bin (by decide +kernel) xps_BadOption_RuntimeError⟩, List.forall_mem_cons.mpr ⟨⟨EF_BadSweep.excC xha_BadSweep ic_n ic_t xhm_BadSweep, kit_bin (by decide +kernel) xps_BadSweep_RuntimeError⟩, List.forall_mem_cons.mpr ⟨⟨EF_BadLevel.excC xha_BadLevel ic_n ic_t xhm_BadLevel, kit_bin (by decide +kernel) xps_BadLevel_RuntimeError⟩, List.forall_mem_cons.mpr ⟨⟨EF_BadDay.excC xha_BadDay ic_n ic_t xhm_BadDay, kit_bin (by decide +kernel) xps_BadDay_RuntimeError⟩, List.forall_mem_cons.mpr ⟨⟨EF_BadColumns.excC xha_BadColumns ic_n ic_t xhm_BadColumns, kit_bin (by decide +kernel) xps_BadColumns_RuntimeError⟩, List.forall_mem_cons.mpr ⟨⟨EF_BadText.excC xha_BadText ic_n ic_t xhm_BadText, kit_bin (by decide +kernel) xps_BadText_RuntimeError⟩, List.forall_mem_cons.mpr ⟨⟨EF_BadCommand.excC xha_BadCommand ic_n ic_t xhm_BadCommand, kit_bin (by decide +kernel) xps_BadCommand_RuntimeError⟩, List.forall_mem_cons.mpr ⟨⟨EF_NoOption.excC xha_NoOption ic_n ic_t xhm_NoOption, kit_bin (by decide +kernel) xps_NoOption_RuntimeError⟩, List.forall_mem_cons.mpr ⟨⟨EF_NoRow.excC xha_NoRow ic_n ic_t xhm_NoRow, kit_bin (by decide +kernel) xps_NoRow_RuntimeError⟩, List.forall_mem_cons.mpr ⟨⟨EF_NoSpan.excC xha_NoSpan ic_n ic_t xhm_NoSpan, kit_bin (by decide +kernel) xps_NoSpan_RuntimeError⟩, List.forall_mem_cons.mpr ⟨⟨EF_NoName.excC xha_NoName ic_n ic_t xhm_NoName, kit_bin (by decide +kernel) xps_NoName_RuntimeError⟩, List.forall_mem_cons.mpr ⟨⟨EF_TooMany.excC xha_TooMany ic_n ic_t xhm_TooMany, kit_bin (by decide +kernel) xps_TooMany_RuntimeError⟩, List.forall_mem_cons.mpr ⟨⟨EF_TooWide.excC xha_TooWide ic_n ic_t xhm_TooWide, kit_bin (by decide +kernel) xps_TooWide_RuntimeError⟩, List.forall_mem_cons.mpr ⟨⟨EF_TooFar.excC xha_TooFar ic_n ic_t xhm_TooFar, kit_bin (by decide +kernel) xps_TooFar_RuntimeError⟩, List.forall_mem_cons.mpr ⟨⟨EF_Endless.excC xha_Endless ic_n ic_t xhm_Endless, kit_bin (by decide +kernel) xps_Endless_RuntimeError⟩, List.forall_mem_cons.mpr ⟨⟨EF_NoWindow.excC xha_NoWindow ic_n ic_t xhm_NoWindow, kit_bin (by decide +kernel) xps_NoWindow_RuntimeError⟩, List.forall_mem_cons.mpr ⟨⟨EF_Unfit.excC xha_Unfit ic_n ic_t xhm_Unfit, kit_bin (by decide +kernel) xps_Unfit_RuntimeError⟩, fun _ z => absurd z List.not_mem_nil⟩⟩⟩⟩⟩⟩⟩⟩⟩⟩⟩⟩⟩⟩⟩⟩⟩⟩⟩⟩⟩⟩⟩⟩⟩⟩⟩⟩⟩), xi_of (List.forall_mem_cons.mpr ⟨⟨EF_BadEdge.excC xha_BadEdge ic_n ic_t xhm_BadEdge, kit_not eiC_BadSpan etC_BadSpan esC_BadSpan xps_BadEdge_BadSpan⟩, List.forall_mem_cons.mpr ⟨⟨EF_BadWindow.excC xha_BadWindow ic_n ic_t xhm_BadWindow, kit_not eiC_BadSpan etC_BadSpan esC_BadSpan xps_BadWindow_BadSpan⟩, List.forall_mem_cons.mpr ⟨⟨EF_BadItem.excC xha_BadItem ic_n ic_t xhm_BadItem, kit_not eiC_BadSpan etC_BadSpan esC_BadSpan xps_BadItem_BadSpan⟩, fun _ z => absurd z List.not_mem_nil⟩⟩⟩), xi_of (List.forall_mem_cons.mpr ⟨⟨EF_BadEdge.excC xha_BadEdge ic_n ic_t xhm_BadEdge, kit_not eiC_BadItem etC_BadItem esC_BadItem xps_BadEdge_BadItem⟩, List.forall_mem_cons.mpr ⟨⟨EF_BadMoment.excC xha_BadMoment ic_n ic_t xhm_BadMoment, kit_not eiC_BadItem etC_BadItem esC_BadItem xps_BadMoment_BadItem⟩, List.forall_mem_cons.mpr ⟨⟨EF_BadColumns.excC xha_BadColumns ic_n ic_t xhm_BadColumns, kit_not eiC_BadItem etC_BadItem esC_BadItem xps_BadColumns_BadItem⟩, fun _ z => absurd z List.not_mem_nil⟩⟩⟩), xi_of (List.forall_mem_cons.mpr ⟨⟨EF_BadSpan.excC xha_BadSpan ic_n ic_t xhm_BadSpan, kit_not eiC_BadEdge etC_BadEdge esC_BadEdge xps_BadSpan_BadEdge⟩, List.forall_mem_cons.mpr ⟨⟨EF_BadWindow.excC xha_BadWindow ic_n ic_t xhm_BadWindow, kit_not eiC_BadEdge etC_BadEdge esC_BadEdge xps_BadWindow_BadEdge⟩, List.forall_mem_cons.mpr ⟨⟨EF_BadMoment.excC xha_BadMoment ic_n ic_t xhm_BadMoment, kit_not eiC_BadEdge etC_BadEdge esC_BadEdge xps_BadMoment_BadEdge⟩, List.forall_mem_cons.mpr ⟨⟨EF_BadItem.excC xha_BadItem ic_n ic_t xhm_BadItem, kit_not eiC_BadEdge etC_BadEdge esC_BadEdge xps_BadItem_BadEdge⟩, fun _ z => absurd z List.not_mem_nil⟩⟩⟩⟩), xi_of (List.forall_mem_cons.mpr ⟨⟨EF_BadSpan.excC xha_BadSpan ic_n ic_t xhm_BadSpan, kit_not eiC_BadWindow etC_BadWindow esC_BadWindow xps_BadSpan_BadWindow⟩, fun _ z => absurd z List.not_mem_nil⟩), xi_of (List.forall_mem_cons.mpr ⟨⟨EF_BadEnds.excC xha_BadEnds ic_n ic_t xhm_BadEnds, kit_not eiC_BadWish etC_BadWish esC_BadWish xps_BadEnds_BadWish⟩, List.forall_mem_cons.mpr ⟨⟨EF_BadOrder.excC xha_BadOrder ic_n ic_t xhm_BadOrder, kit_not eiC_BadWish etC_BadWish esC_BadWish xps_BadOrder_BadWish⟩, List.forall_mem_cons.mpr ⟨⟨EF_BadOption.excC xha_BadOption ic_n ic_t xhm_BadOption, kit_not eiC_BadWish etC_BadWish esC_BadWish xps_BadOption_BadWish⟩, List.forall_mem_cons.mpr ⟨⟨EF_BadSweep.excC xha_BadSweep ic_n ic_t xhm_BadSweep, kit_not eiC_BadWish etC_BadWish esC_BadWish xps_BadSweep_BadWish⟩, List.forall_mem_cons.mpr ⟨⟨EF_BadLevel.excC xha_BadLevel ic_n ic_t xhm_BadLevel, kit_not eiC_BadWish etC_BadWish esC_BadWish xps_BadLevel_BadWish⟩, List.forall_mem_cons.mpr ⟨⟨EF_BadText.excC xha_BadText ic_n ic_t xhm_BadText, kit_not eiC_BadWish etC_BadWish esC_BadWish xps_BadText_BadWish⟩, fun _ z => absurd z List.not_mem_nil⟩⟩⟩⟩⟩⟩), xi_of (List.forall_mem_cons.mpr ⟨⟨EF_BadEnds.excC xha_BadEnds ic_n ic_t xhm_BadEnds, kit_not eiC_BadOption etC_BadOption esC_BadOption xps_BadEnds_BadOption⟩, List.forall_mem_cons.mpr ⟨⟨EF_BadSweep.excC xha_BadSweep ic_n ic_t xhm_BadSweep, kit_not eiC_BadOption etC_BadOption esC_BadOption xps_BadSweep_BadOption⟩, fun _ z => absurd z List.not_mem_nil⟩⟩), xi_of (List.forall_mem_cons.mpr ⟨⟨EF_BadOrder.excC xha_BadOrder ic_n ic_t xhm_BadOrder, kit_not eiC_BadUse etC_BadUse esC_BadUse xps_BadOrder_BadUse⟩, List.forall_mem_cons.mpr ⟨⟨EF_BadRule.excC xha_BadRule ic_n ic_t xhm_BadRule, kit_not eiC_BadUse etC_BadUse esC_BadUse xps_BadRule_BadUse⟩, List.forall_mem_cons.mpr ⟨⟨EF_BadCommand.excC xha_BadCommand ic_n ic_t xhm_BadCommand, kit_not eiC_BadUse etC_BadUse esC_BadUse xps_BadCommand_BadUse⟩, fun _ z => absurd z List.not_mem_nil⟩⟩⟩), xi_of (List.forall_mem_cons.mpr ⟨⟨EF_BadTest.excC xha_BadTest ic_n ic_t xhm_BadTest, kit_not eiC_BadRule etC_BadRule esC_BadRule xps_BadTest_BadRule⟩, List.forall_mem_cons.mpr ⟨⟨EF_BadDeed.excC xha_BadDeed ic_n ic_t xhm_BadDeed, kit_not eiC_BadRule etC_BadRule esC_BadRule xps_BadDeed_BadRule⟩, List.forall_mem_cons.mpr ⟨⟨EF_BadUse.excC xha_BadUse ic_n ic_t xhm_BadUse, kit_not eiC_BadRule etC_BadRule esC_BadRule xps_BadUse_BadRule⟩, fun _ z => absurd z List.not_mem_nil⟩⟩⟩), xi_of (List.forall_mem_cons.mpr ⟨⟨EF_BadTest.excC xha_BadTest ic_n ic_t xhm_BadTest, kit_not eiC_BadDeed etC_BadDeed esC_BadDeed xps_BadTest_BadDeed⟩, fun _ z => absurd z List.not_mem_nil⟩), xi_of (List.forall_mem_cons.mpr ⟨⟨EF_BadDeed.excC xha_BadDeed ic_n ic_t xhm_BadDeed, kit_not eiC_BadTest etC_BadTest esC_BadTest xps_BadDeed_BadTest⟩, List.forall_mem_cons.mpr ⟨⟨EF_BadRule.excC xha_BadRule ic_n ic_t xhm_BadRule, kit_not eiC_BadTest etC_BadTest esC_BadTest xps_BadRule_BadTest⟩, fun _ z => absurd z List.not_mem_nil⟩⟩), xi_of (List.forall_mem_cons.mpr ⟨⟨EF_BadUse.excC xha_BadUse ic_n ic_t xhm_BadUse, kit_not eiC_BadOrder etC_BadOrder esC_BadOrder xps_BadUse_BadOrder⟩, fun _ z => absurd z List.not_mem_nil⟩), xi_of (List.forall_mem_cons.mpr ⟨⟨EF_BadWish.excC xha_BadWish ic_n ic_t xhm_BadWish, kit_not eiC_BadEnds etC_BadEnds esC_BadEnds xps_BadWish_BadEnds⟩, fun _ z => absurd z List.not_mem_nil⟩), xi_of (List.forall_mem_cons.mpr ⟨⟨EF_BadWish.excC xha_BadWish ic_n ic_t xhm_BadWish, kit_not eiC_BadLevel etC_BadLevel esC_BadLevel xps_BadWish_BadLevel⟩, fun _ z => absurd z List.not_mem_nil⟩), xi_of (List.forall_mem_cons.mpr ⟨⟨EF_BadOption.excC xha_BadOption ic_n ic_t xhm_BadOption, kit_not eiC_BadSweep etC_BadSweep esC_BadSweep xps_BadOption_BadSweep⟩, List.forall_mem_cons.mpr ⟨⟨EF_BadLevel.excC xha_BadLevel ic_n ic_t xhm_BadLevel, kit_not eiC_BadSweep etC_BadSweep esC_BadSweep xps_BadLevel_BadSweep⟩, fun _ z => absurd z List.not_mem_nil⟩⟩), xi_of (List.forall_mem_cons.mpr ⟨⟨EF_BadDay.excC xha_BadDay ic_n ic_t xhm_BadDay, kit_not eiC_BadColumns etC_BadColumns esC_BadColumns xps_BadDay_BadColumns⟩, fun _ z => absurd z List.not_mem_nil⟩), xi_of (List.forall_mem_cons.mpr ⟨⟨EF_BadDay.excC xha_BadDay ic_n ic_t xhm_BadDay, kit_not eiC_BadMoment etC_BadMoment esC_BadMoment xps_BadDay_BadMoment⟩, fun _ z => absurd z List.not_mem_nil⟩), xi_of (List.forall_mem_cons.mpr ⟨⟨EF_BadColumns.excC xha_BadColumns ic_n ic_t xhm_BadColumns, kit_not eiC_BadDay etC_BadDay esC_BadDay xps_BadColumns_BadDay⟩, fun _ z => absurd z List.not_mem_nil⟩), xi_of (List.forall_mem_cons.mpr ⟨⟨EF_BadText.excC xha_BadText ic_n ic_t xhm_BadText, kit_not eiC_BadCommand etC_BadCommand esC_BadCommand xps_BadText_BadCommand⟩, fun _ z => absurd z List.not_mem_nil⟩), xi_of (List.forall_mem_cons.mpr ⟨⟨EF_BadCommand.excC xha_BadCommand ic_n ic_t xhm_BadCommand, kit_not eiC_BadText etC_BadText esC_BadText xps_BadCommand_BadText⟩, fun _ z => absurd z List.not_mem_nil⟩), xi_of (List.forall_mem_cons.mpr ⟨⟨EF_NoOption.excC xha_NoOption ic_n ic_t xhm_NoOption, kit_not eiC_NoName etC_NoName esC_NoName xps_NoOption_NoName⟩, List.forall_mem_cons.mpr ⟨⟨EF_NoSpan.excC xha_NoSpan ic_n ic_t xhm_NoSpan, kit_not eiC_NoName etC_NoName esC_NoName xps_NoSpan_NoName⟩, fun _ z => absurd z List.not_mem_nil⟩⟩), xi_of (List.forall_mem_cons.mpr ⟨⟨EF_NoOption.excC xha_NoOption ic_n ic_t xhm_NoOption, kit_not eiC_NoRow etC_NoRow esC_NoRow xps_NoOption_NoRow⟩, List.forall_mem_cons.mpr ⟨⟨EF_NoSpan.excC xha_NoSpan ic_n ic_t xhm_NoSpan, kit_not eiC_NoRow etC_NoRow esC_NoRow xps_NoSpan_NoRow⟩, fun _ z => absurd z List.not_mem_nil⟩⟩), xi_of (List.forall_mem_cons.mpr ⟨⟨EF_NoRow.excC xha_NoRow ic_n ic_t xhm_NoRow, kit_not eiC_NoSpan etC_NoSpan esC_NoSpan xps_NoRow_NoSpan⟩, List.forall_mem_cons.mpr ⟨⟨EF_NoName.excC xha_NoName ic_n ic_t xhm_NoName, kit_not eiC_NoSpan etC_NoSpan esC_NoSpan xps_NoName_NoSpan⟩, fun _ z => absurd z List.not_mem_nil⟩⟩), xi_of (List.forall_mem_cons.mpr ⟨⟨EF_NoRow.excC xha_NoRow ic_n ic_t xhm_NoRow, kit_not eiC_NoOption etC_NoOption esC_NoOption xps_NoRow_NoOption⟩, List.forall_mem_cons.mpr ⟨⟨EF_NoName.excC xha_NoName ic_n ic_t xhm_NoName, kit_not eiC_NoOption etC_NoOption esC_NoOption xps_NoName_NoOption⟩, fun _ z => absurd z List.not_mem_nil⟩⟩), xi_of (List.forall_mem_cons.mpr ⟨⟨EF_TooMany.excC xha_TooMany ic_n ic_t xhm_TooMany, kit_not eiC_TooWide etC_TooWide esC_TooWide xps_TooMany_TooWide⟩, List.forall_mem_cons.mpr ⟨⟨EF_TooFar.excC xha_TooFar ic_n ic_t xhm_TooFar, kit_not eiC_TooWide etC_TooWide esC_TooWide xps_TooFar_TooWide⟩, fun _ z => absurd z List.not_mem_nil⟩⟩), xi_of (List.forall_mem_cons.mpr ⟨⟨EF_TooMany.excC xha_TooMany ic_n ic_t xhm_TooMany, kit_not eiC_TooFar etC_TooFar esC_TooFar xps_TooMany_TooFar⟩, List.forall_mem_cons.mpr ⟨⟨EF_Endless.excC xha_Endless ic_n ic_t xhm_Endless, kit_not eiC_TooFar etC_TooFar esC_TooFar xps_Endless_TooFar⟩, fun _ z => absurd z List.not_mem_nil⟩⟩), xi_of (List.forall_mem_cons.mpr ⟨⟨EF_TooWide.excC xha_TooWide ic_n ic_t xhm_TooWide, kit_not eiC_TooMany etC_TooMany esC_TooMany xps_TooWide_TooMany⟩, List.forall_mem_cons.mpr ⟨⟨EF_Endless.excC xha_Endless ic_n ic_t xhm_Endless, kit_not eiC_TooMany etC_TooMany esC_TooMany xps_Endless_TooMany⟩, fun _ z => absurd z List.not_mem_nil⟩⟩), xi_of (List.forall_mem_cons.mpr ⟨⟨EF_TooWide.excC xha_TooWide ic_n ic_t xhm_TooWide, kit_not eiC_Endless etC_Endless esC_Endless xps_TooWide_Endless⟩, List.forall_mem_cons.mpr ⟨⟨EF_TooFar.excC xha_TooFar ic_n ic_t xhm_TooFar, kit_not eiC_Endless etC_Endless esC_Endless xps_TooFar_Endless⟩, fun _ z => absurd z List.not_mem_nil⟩⟩), xi_of (List.forall_mem_cons.mpr ⟨⟨EF_NoWindow.excC xha_NoWindow ic_n ic_t xhm_NoWindow, kit_not eiC_Unfit etC_Unfit esC_Unfit xps_NoWindow_Unfit⟩, fun _ z => absurd z List.not_mem_nil⟩), xi_of (List.forall_mem_cons.mpr ⟨⟨EF_Unfit.excC xha_Unfit ic_n ic_t xhm_Unfit, kit_not eiC_NoWindow etC_NoWindow esC_NoWindow xps_Unfit_NoWindow⟩, fun _ z => absurd z List.not_mem_nil⟩), trivial⟩
  have F_l_bag := fun_mk (st := s_l_bag) l_l_bag c_l_bag k_l_bag
  have b_l_bag := F_l_bag.binds (ps := ["_law_script", "_law_at"]) fun _ _ _ _ _ _ us hl => match us, hl with | [_, _], _ => rfl
  have F_l_take := fun_mk (st := s_l_take) l_l_take c_l_take k_l_take
  have b_l_take := F_l_take.binds (ps := ["_law_bag_here", "_law_many"]) fun _ _ _ _ _ _ us hl => match us, hl with | [_, _], _ => rfl
  have F_l_any := fun_mk (st := s_l_any) l_l_any c_l_any k_l_any
  have b_l_any := F_l_any.binds (ps := ["_law_bag_here", "_law_deep"]) fun _ _ _ _ _ _ us hl => match us, hl with | [_, _], _ => rfl
  have F_l_kinds := fun_mk (st := s_l_kinds) l_l_kinds c_l_kinds k_l_kinds
  have b_l_kinds := F_l_kinds.binds (ps := ["_law_e"]) fun _ _ _ _ _ _ us hl => match us, hl with | [_], _ => rfl
  have F_l_values := fun_mk (st := s_l_values) l_l_values c_l_values k_l_values
  have b_l_values := F_l_values.binds (ps := ["_law_x"]) fun _ _ _ _ _ _ us hl => match us, hl with | [_], _ => rfl
  have F_l_others := fun_mk (st := s_l_others) l_l_others c_l_others k_l_others
  have b_l_others := F_l_others.binds (ps := ["_law_x"]) fun _ _ _ _ _ _ us hl => match us, hl with | [_], _ => rfl
  have F_law := fun_mk (st := s_law) l_law c_law k_law
  refine ⟨PySem.W.fnOf "law" "law" (defArgs s_law) (defBody s_law) (defScope s_law) .none kV_law dc_law pm_law an_law cd_law ct_law, fun s v => .of_eq rfl, fun bh _ _ => ?_⟩
  have E_BadEdge : ErrB l.prog w K mg bh "BadEdge" "edge" (cm "BadEdge") fI_BadEdge _ := EF_BadEdge.errB (PySem.W.mg_of X G eg_BadEdge) eai_BadEdge eti_BadEdge FI_BadEdge bI_BadEdge ⟨rfl, rfl, rfl, by decide +kernel, rfl, by decide +kernel, by decide +kernel⟩ (by rfl) (by decide +kernel) (by decide +kernel) (by rfl) (by rfl)
  have E_BadSpan : ErrB l.prog w K mg bh "BadSpan" "span" (cm "BadSpan") fI_BadSpan _ := EF_BadSpan.errB (PySem.W.mg_of X G eg_BadSpan) eai_BadSpan eti_BadSpan FI_BadSpan bI_BadSpan ⟨rfl, rfl, rfl, by decide +kernel, rfl, by decide +kernel, by decide +kernel⟩ (by rfl) (by decide +kernel) (by decide +kernel) (by rfl) (by rfl)
  have E_BadWindow : ErrB l.prog w K mg bh "BadWindow" "window" (cm "BadWindow") fI_BadWindow _ := EF_BadWindow.errB (PySem.W.mg_of X G eg_BadWindow) eai_BadWindow eti_BadWindow FI_BadWindow bI_BadWindow ⟨rfl, rfl, rfl, by decide +kernel, rfl, by decide +kernel, by decide +kernel⟩ (by rfl) (by decide +kernel) (by decide +kernel) (by rfl) (by rfl)
  have E_BadMoment : ErrB l.prog w K mg bh "BadMoment" "moment" (cm "BadMoment") fI_BadMoment _ := EF_BadMoment.errB (PySem.W.mg_of X G eg_BadMoment) eai_BadMoment eti_BadMoment FI_BadMoment bI_BadMoment ⟨rfl, rfl, rfl, by decide +kernel, rfl, by decide +kernel, by decide +kernel⟩ (by rfl) (by decide +kernel) (by decide +kernel) (by rfl) (by rfl)
  have E_BadEnds : ErrB l.prog w K mg bh "BadEnds" "ends" (cm "BadEnds") fI_BadEnds _ := EF_BadEnds.errB (PySem.W.mg_of X G eg_BadEnds) eai_BadEnds eti_BadEnds FI_BadEnds bI_BadEnds ⟨rfl, rfl, rfl, by decide +kernel, rfl, by decide +kernel, by decide +kernel⟩ (by rfl) (by decide +kernel) (by decide +kernel) (by rfl) (by rfl)
  have E_BadItem : ErrB l.prog w K mg bh "BadItem" "index" (cm "BadItem") fI_BadItem _ := EF_BadItem.errB (PySem.W.mg_of X G eg_BadItem) eai_BadItem eti_BadItem FI_BadItem bI_BadItem ⟨rfl, rfl, rfl, by decide +kernel, rfl, by decide +kernel, by decide +kernel⟩ (by rfl) (by decide +kernel) (by decide +kernel) (by rfl) (by rfl)
  have E_BadOrder : ErrB l.prog w K mg bh "BadOrder" "order" (cm "BadOrder") fI_BadOrder _ := EF_BadOrder.errB (PySem.W.mg_of X G eg_BadOrder) eai_BadOrder eti_BadOrder FI_BadOrder bI_BadOrder ⟨rfl, rfl, rfl, by decide +kernel, rfl, by decide +kernel, by decide +kernel⟩ (by rfl) (by decide +kernel) (by decide +kernel) (by rfl) (by rfl)
  have E_BadTest : ErrB l.prog w K mg bh "BadTest" "test" (cm "BadTest") fI_BadTest _ := EF_BadTest.errB (PySem.W.mg_of X G eg_BadTest) eai_BadTest eti_BadTest FI_BadTest bI_BadTest ⟨rfl, rfl, rfl, by decide +kernel, rfl, by decide +kernel, by decide +kernel⟩ (by rfl) (by decide +kernel) (by decide +kernel) (by rfl) (by rfl)
  have E_BadDeed : ErrB l.prog w K mg bh "BadDeed" "deed" (cm "BadDeed") fI_BadDeed _ := EF_BadDeed.errB (PySem.W.mg_of X G eg_BadDeed) eai_BadDeed eti_BadDeed FI_BadDeed bI_BadDeed ⟨rfl, rfl, rfl, by decide +kernel, rfl, by decide +kernel, by decide +kernel⟩ (by rfl) (by decide +kernel) (by decide +kernel) (by rfl) (by rfl)
  have E_BadRule : ErrB l.prog w K mg bh "BadRule" "rule" (cm "BadRule") fI_BadRule _ := EF_BadRule.errB (PySem.W.mg_of X G eg_BadRule) eai_BadRule eti_BadRule FI_BadRule bI_BadRule ⟨rfl, rfl, rfl, by decide +kernel, rfl, by decide +kernel, by decide +kernel⟩ (by rfl) (by decide +kernel) (by decide +kernel) (by rfl) (by rfl)
  have E_BadUse : ErrB l.prog w K mg bh "BadUse" "place" (cm "BadUse") fI_BadUse _ := EF_BadUse.errB (PySem.W.mg_of X G eg_BadUse) eai_BadUse eti_BadUse FI_BadUse bI_BadUse ⟨rfl, rfl, rfl, by decide +kernel, rfl, by decide +kernel, by decide +kernel⟩ (by rfl) (by decide +kernel) (by decide +kernel) (by rfl) (by rfl)
  have E_BadWish : ErrB l.prog w K mg bh "BadWish" "word" (cm "BadWish") fI_BadWish _ := EF_BadWish.errB (PySem.W.mg_of X G eg_BadWish) eai_BadWish eti_BadWish FI_BadWish bI_BadWish ⟨rfl, rfl, rfl, by decide +kernel, rfl, by decide +kernel, by decide +kernel⟩ (by rfl) (by decide +kernel) (by decide +kernel) (by rfl) (by rfl)
  have E_BadOption : ErrB l.prog w K mg bh "BadOption" "option" (cm "BadOption") fI_BadOption _ := EF_BadOption.errB (PySem.W.mg_of X G eg_BadOption) eai_BadOption eti_BadOption FI_BadOption bI_BadOption ⟨rfl, rfl, rfl, by decide +kernel, rfl, by decide +kernel, by decide +kernel⟩ (by rfl) (by decide +kernel) (by decide +kernel) (by rfl) (by rfl)
  have E_BadSweep : ErrB l.prog w K mg bh "BadSweep" "word" (cm "BadSweep") fI_BadSweep _ := EF_BadSweep.errB (PySem.W.mg_of X G eg_BadSweep) eai_BadSweep eti_BadSweep FI_BadSweep bI_BadSweep ⟨rfl, rfl, rfl, by decide +kernel, rfl, by decide +kernel, by decide +kernel⟩ (by rfl) (by decide +kernel) (by decide +kernel) (by rfl) (by rfl)
  have E_BadLevel : ErrB l.prog w K mg bh "BadLevel" "level" (cm "BadLevel") fI_BadLevel _ := EF_BadLevel.errB (PySem.W.mg_of X G eg_BadLevel) eai_BadLevel eti_BadLevel FI_BadLevel bI_BadLevel ⟨rfl, rfl, rfl, by decide +kernel, rfl, by decide +kernel, by decide +kernel⟩ (by rfl) (by decide +kernel) (by decide +kernel) (by rfl) (by rfl)
  have E_BadDay : ErrB l.prog w K mg bh "BadDay" "day" (cm "BadDay") fI_BadDay _ := EF_BadDay.errB (PySem.W.mg_of X G eg_BadDay) eai_BadDay eti_BadDay FI_BadDay bI_BadDay ⟨rfl, rfl, rfl, by decide +kernel, rfl, by decide +kernel, by decide +kernel⟩ (by rfl) (by decide +kernel) (by decide +kernel) (by rfl) (by rfl)
  have E_BadColumns : ErrB l.prog w K mg bh "BadColumns" "columns" (cm "BadColumns") fI_BadColumns _ := EF_BadColumns.errB (PySem.W.mg_of X G eg_BadColumns) eai_BadColumns eti_BadColumns FI_BadColumns bI_BadColumns ⟨rfl, rfl, rfl, by decide +kernel, rfl, by decide +kernel, by decide +kernel⟩ (by rfl) (by decide +kernel) (by decide +kernel) (by rfl) (by rfl)
  have E_BadText : ErrB l.prog w K mg bh "BadText" "line" (cm "BadText") fI_BadText _ := EF_BadText.errB (PySem.W.mg_of X G eg_BadText) eai_BadText eti_BadText FI_BadText bI_BadText ⟨rfl, rfl, rfl, by decide +kernel, rfl, by decide +kernel, by decide +kernel⟩ (by rfl) (by decide +kernel) (by decide +kernel) (by rfl) (by rfl)
  have E_BadCommand : ErrB l.prog w K mg bh "BadCommand" "command" (cm "BadCommand") fI_BadCommand _ := EF_BadCommand.errB (PySem.W.mg_of X G eg_BadCommand) eai_BadCommand eti_BadCommand FI_BadCommand bI_BadCommand ⟨rfl, rfl, rfl, by decide +kernel, rfl, by decide +kernel, by decide +kernel⟩ (by rfl) (by decide +kernel) (by decide +kernel) (by rfl) (by rfl)
  have E_NoOption : ErrB l.prog w K mg bh "NoOption" "option" (cm "NoOption") fI_NoOption _ := EF_NoOption.errB (PySem.W.mg_of X G eg_NoOption) eai_NoOption eti_NoOption FI_NoOption bI_NoOption ⟨rfl, rfl, rfl, by decide +kernel, rfl, by decide +kernel, by decide +kernel⟩ (by rfl) (by decide +kernel) (by decide +kernel) (by rfl) (by rfl)
  have E_NoRow : ErrB l.prog w K mg bh "NoRow" "row" (cm "NoRow") fI_NoRow _ := EF_NoRow.errB (PySem.W.mg_of X G eg_NoRow) eai_NoRow eti_NoRow FI_NoRow bI_NoRow ⟨rfl, rfl, rfl, by decide +kernel, rfl, by decide +kernel, by decide +kernel⟩ (by rfl) (by decide +kernel) (by decide +kernel) (by rfl) (by rfl)
  have E_NoSpan : ErrB l.prog w K mg bh "NoSpan" "index" (cm "NoSpan") fI_NoSpan _ := EF_NoSpan.errB (PySem.W.mg_of X G eg_NoSpan) eai_NoSpan eti_NoSpan FI_NoSpan bI_NoSpan ⟨rfl, rfl, rfl, by decide +kernel, rfl, by decide +kernel, by decide +kernel⟩ (by rfl) (by decide +kernel) (by decide +kernel) (by rfl) (by rfl)
  have E_NoName : ErrB l.prog w K mg bh "NoName" "name" (cm "NoName") fI_NoName _ := EF_NoName.errB (PySem.W.mg_of X G eg_NoName) eai_NoName eti_NoName FI_NoName bI_NoName ⟨rfl, rfl, rfl, by decide +kernel, rfl, by decide +kernel, by decide +kernel⟩ (by rfl) (by decide +kernel) (by decide +kernel) (by rfl) (by rfl)
  have E_TooMany : ErrB l.prog w K mg bh "TooMany" "limit" (cm "TooMany") fI_TooMany _ := EF_TooMany.errB (PySem.W.mg_of X G eg_TooMany) eai_TooMany eti_TooMany FI_TooMany bI_TooMany ⟨rfl, rfl, rfl, by decide +kernel, rfl, by decide +kernel, by decide +kernel⟩ (by rfl) (by decide +kernel) (by decide +kernel) (by rfl) (by rfl)
  have E_TooWide : ErrB l.prog w K mg bh "TooWide" "limit" (cm "TooWide") fI_TooWide _ := EF_TooWide.errB (PySem.W.mg_of X G eg_TooWide) eai_TooWide eti_TooWide FI_TooWide bI_TooWide ⟨rfl, rfl, rfl, by decide +kernel, rfl, by decide +kernel, by decide +kernel⟩ (by rfl) (by decide +kernel) (by decide +kernel) (by rfl) (by rfl)
  have E_TooFar : ErrB l.prog w K mg bh "TooFar" "edge" (cm "TooFar") fI_TooFar _ := EF_TooFar.errB (PySem.W.mg_of X G eg_TooFar) eai_TooFar eti_TooFar FI_TooFar bI_TooFar ⟨rfl, rfl, rfl, by decide +kernel, rfl, by decide +kernel, by decide +kernel⟩ (by rfl) (by decide +kernel) (by decide +kernel) (by rfl) (by rfl)
  have E_Endless : ErrB l.prog w K mg bh "Endless" "span" (cm "Endless") fI_Endless _ := EF_Endless.errB (PySem.W.mg_of X G eg_Endless) eai_Endless eti_Endless FI_Endless bI_Endless ⟨rfl, rfl, rfl, by decide +kernel, rfl, by decide +kernel, by decide +kernel⟩ (by rfl) (by decide +kernel) (by decide +kernel) (by rfl) (by rfl)
  have E_NoWindow : ErrB l.prog w K mg bh "NoWindow" "user" (cm "NoWindow") fI_NoWindow _ := EF_NoWindow.errB (PySem.W.mg_of X G eg_NoWindow) eai_NoWindow eti_NoWindow FI_NoWindow bI_NoWindow ⟨rfl, rfl, rfl, by decide +kernel, rfl, by decide +kernel, by decide +kernel⟩ (by rfl) (by decide +kernel) (by decide +kernel) (by rfl) (by rfl)
  have E_Unfit : ErrB l.prog w K mg bh "Unfit" "wish" (cm "Unfit") fI_Unfit _ := EF_Unfit.errB (PySem.W.mg_of X G eg_Unfit) eai_Unfit eti_Unfit FI_Unfit bI_Unfit ⟨rfl, rfl, rfl, by decide +kernel, rfl, by decide +kernel, by decide +kernel⟩ (by rfl) (by decide +kernel) (by decide +kernel) (by rfl) (by rfl)
  have R_l_bag : Rdy l.prog w K mg bh "_law_bag" 1 ["_law_script", "_law_at"] (spF (Gx.mk K cm none TT) 2 fn_l_bag) f_l_bag _ := ⟨ok_l_bag B T KI F_l_bag, PySem.W.mg_of X G a_l_bag, k_l_bag, b_l_bag⟩
  have R_l_take : Rdy l.prog w K mg bh "_law_take" 1 ["_law_bag_here", "_law_many"] (spD (Gx.mk K cm none TT) 2 fn_l_take) f_l_take _ := ⟨ok_l_take B T KI F_l_take, PySem.W.mg_of X G a_l_take, k_l_take, b_l_take⟩
  have R_l_any : Rdy l.prog w K mg bh "_law_any" 10 ["_law_bag_here", "_law_deep"] (spD (Gx.mk K cm none TT) 2 fn_l_any) f_l_any _ := ⟨ok_l_any B T KI R_l_take (PySem.W.mg_of X G a_l_any) b_l_any F_l_any, PySem.W.mg_of X G a_l_any, k_l_any, b_l_any⟩
  have R_l_kinds : Rdy l.prog w K mg bh "_law_kinds" 1 ["_law_e"] (spD (Gx.mk K cm none TT) 1 fn_l_kinds) f_l_kinds _ := ⟨ok_l_kinds B T KI F_l_kinds, PySem.W.mg_of X G a_l_kinds, k_l_kinds, b_l_kinds⟩
  have R_l_values : Rdy l.prog w K mg bh "_law_values" 3 ["_law_x"] (spF (Gx.mk K cm none TT) 1 fn_l_values) f_l_values _ := ⟨ok_l_values B T KI E_BadEdge E_BadSpan E_BadWindow E_BadMoment E_BadEnds E_BadItem E_BadOrder E_BadTest E_BadDeed E_BadRule E_BadUse E_BadWish E_BadOption E_BadSweep E_BadLevel E_BadDay E_BadColumns E_BadText E_BadCommand R_l_kinds F_l_values, PySem.W.mg_of X G a_l_values, k_l_values, b_l_values⟩
  have R_l_others : Rdy l.prog w K mg bh "_law_others" 3 ["_law_x"] (spF (Gx.mk K cm none TT) 1 fn_l_others) f_l_others _ := ⟨ok_l_others B T KI E_NoOption E_NoRow E_NoSpan E_NoName E_TooMany E_TooWide E_TooFar E_Endless E_NoWindow E_Unfit R_l_kinds F_l_others, PySem.W.mg_of X G a_l_others, k_l_others, b_l_others⟩
  exact FnG.imp (ok_law B T KI E_BadItem R_l_bag R_l_any R_l_values R_l_others F_law) (law_sp fun ns hn => law_run ns hn)
end
end Spk
open PySem PySem.W PyProof.Rows
set_option maxHeartbeats 0 in
theorem PySem.Challenge.cw_spanloops_k00_errors_made_holds : PySem.Challenge.rw_spanloops_k00_errors_made.Holds := by
  refine Spk.topOf ?_
  k_fill
  refine Spk.walkG (l := PySem.Challenge.rw_spanloops_k00_errors_made) (n := 63) (k := 11) (x := "_law_script") (sp := fun w => Spk.sp_law _) rfl (by decide) rfl ⟨rfl, by decide, by decide⟩ (fun w h Y => by first | exact PySem.W.kIn_of Y | exact PySem.W.km_in_of Y) ?F (fun _ _ a ns hl _ hS => ⟨a, ns, rfl, hS, hl, fun _ => rfl⟩)
  case F =>
    intro w mg fa h KX G hmg
    refine' Spk.all_mk KX G hmg ?z_LookupError ?z_OverflowError ?z_RuntimeError ?z_ValueError ?z_abs ?z_int ?z_isinstance ?z_len ?z_max ?z_min ?z_range ?z_repr ?z_tuple ?eg_BadEdge ?ex_BadEdge ?esa_BadEdge ?ega_BadEdge ?egg_BadEdge ?enf_BadEdge ?ekC_BadEdge ?eeC_BadEdge ?etC_BadEdge ?ehC_BadEdge ?eiC_BadEdge ?esC_BadEdge ?eai_BadEdge ?eti_BadEdge ?eli_BadEdge ?eci_BadEdge ?eki_BadEdge ?eg_BadSpan ?ex_BadSpan ?esa_BadSpan ?ega_BadSpan ?egg_BadSpan ?enf_BadSpan ?ekC_BadSpan ?eeC_BadSpan ?etC_BadSpan ?ehC_BadSpan ?eiC_BadSpan ?esC_BadSpan ?eai_BadSpan ?eti_BadSpan ?eli_BadSpan ?eci_BadSpan ?eki_BadSpan ?eg_BadWindow ?ex_BadWindow ?esa_BadWindow ?ega_BadWindow ?egg_BadWindow ?enf_BadWindow ?ekC_BadWindow ?eeC_BadWindow ?etC_BadWindow ?ehC_BadWindow ?eiC_BadWindow ?esC_BadWindow ?eai_BadWindow ?eti_BadWindow ?eli_BadWindow ?eci_BadWindow ?eki_BadWindow ?eg_BadMoment ?ex_BadMoment ?esa_BadMoment ?ega_BadMoment ?egg_BadMoment ?enf_BadMoment ?ekC_BadMoment ?eeC_BadMoment ?etC_BadMoment ?ehC_BadMoment ?eiC_BadMoment ?esC_BadMoment ?eai_BadMoment ?eti_BadMoment ?eli_BadMoment ?eci_BadMoment ?eki_BadMoment ?eg_BadEnds ?ex_BadEnds ?esa_BadEnds ?ega_BadEnds ?egg_BadEnds ?enf_BadEnds ?ekC_BadEnds ?eeC_BadEnds ?etC_BadEnds ?ehC_BadEnds ?eiC_BadEnds ?esC_BadEnds ?eai_BadEnds ?eti_BadEnds ?eli_BadEnds ?eci_BadEnds ?eki_BadEnds ?eg_BadItem ?ex_BadItem ?esa_BadItem ?ega_BadItem ?egg_BadItem ?enf_BadItem ?ekC_BadItem ?eeC_BadItem ?etC_BadItem ?ehC_BadItem ?eiC_BadItem ?esC_BadItem ?eai_BadItem ?eti_BadItem ?eli_BadItem ?eci_BadItem ?eki_BadItem ?eg_BadOrder ?ex_BadOrder ?esa_BadOrder ?ega_BadOrder ?egg_BadOrder ?enf_BadOrder ?ekC_BadOrder ?eeC_BadOrder ?etC_BadOrder ?ehC_BadOrder ?eiC_BadOrder ?esC_BadOrder ?eai_BadOrder ?eti_BadOrder ?eli_BadOrder ?eci_BadOrder ?eki_BadOrder ?eg_BadTest ?ex_BadTest ?esa_BadTest ?ega_BadTest ?egg_BadTest ?enf_BadTest ?ekC_BadTest ?eeC_BadTest ?etC_BadTest ?ehC_BadTest ?eiC_BadTest ?esC_BadTest ?eai_BadTest ?eti_BadTest ?eli_BadTest ?eci_BadTest ?eki_BadTest ?eg_BadDeed ?ex_BadDeed ?esa_BadDeed ?ega_BadDeed ?egg_BadDeed ?enf_BadDeed ?ekC_BadDeed ?eeC_BadDeed ?etC_BadDeed ?ehC_BadDeed ?eiC_BadDeed ?esC_BadDeed ?eai_BadDeed ?eti_BadDeed ?eli_BadDeed ?eci_BadDeed ?eki_BadDeed ?eg_BadRule ?ex_BadRule ?esa_BadRule ?ega_BadRule ?egg_BadRule ?enf_BadRule ?ekC_BadRule ?eeC_BadRule ?etC_BadRule ?ehC_BadRule ?eiC_BadRule ?esC_BadRule ?eai_BadRule ?eti_BadRule ?eli_BadRule ?eci_BadRule ?eki_BadRule ?eg_BadUse ?ex_BadUse ?esa_BadUse ?ega_BadUse ?egg_BadUse ?enf_BadUse ?ekC_BadUse ?eeC_BadUse ?etC_BadUse ?ehC_BadUse ?eiC_BadUse ?esC_BadUse ?eai_BadUse ?eti_BadUse ?eli_BadUse ?eci_BadUse ?eki_BadUse ?eg_BadWish ?ex_BadWish ?esa_BadWish ?ega_BadWish ?egg_BadWish ?enf_BadWish ?ekC_BadWish ?eeC_BadWish ?etC_BadWish ?ehC_BadWish ?eiC_BadWish ?esC_BadWish ?eai_BadWish ?eti_BadWish ?eli_BadWish ?eci_BadWish ?eki_BadWish ?eg_BadOption ?ex_BadOption ?esa_BadOption ?ega_BadOption ?egg_BadOption ?enf_BadOption ?ekC_BadOption ?eeC_BadOption ?etC_BadOption ?ehC_BadOption ?eiC_BadOption ?esC_BadOption ?eai_BadOption ?eti_BadOption ?eli_BadOption ?eci_BadOption ?eki_BadOption ?eg_BadSweep ?ex_BadSweep ?esa_BadSweep ?ega_BadSweep ?egg_BadSweep ?enf_BadSweep ?ekC_BadSweep ?eeC_BadSweep ?etC_BadSweep ?ehC_BadSweep ?eiC_BadSweep ?esC_BadSweep ?eai_BadSweep ?eti_BadSweep ?eli_BadSweep ?eci_BadSweep ?eki_BadSweep ?eg_BadLevel ?ex_BadLevel ?esa_BadLevel ?ega_BadLevel ?egg_BadLevel ?enf_BadLevel ?ekC_BadLevel ?eeC_BadLevel ?etC_BadLevel ?ehC_BadLevel ?eiC_BadLevel ?esC_BadLevel ?eai_BadLevel ?eti_BadLevel ?eli_BadLevel ?eci_BadLevel ?eki_BadLevel ?eg_BadDay ?ex_BadDay ?esa_BadDay ?ega_BadDay ?egg_BadDay ?enf_BadDay ?ekC_BadDay ?eeC_BadDay ?etC_BadDay ?ehC_BadDay ?eiC_BadDay ?esC_BadDay ?eai_BadDay ?eti_BadDay ?eli_BadDay ?eci_BadDay ?eki_BadDay ?eg_BadColumns ?ex_BadColumns ?esa_BadColumns ?ega_BadColumns ?egg_BadColumns ?enf_BadColumns ?ekC_BadColumns ?eeC_BadColumns ?etC_BadColumns ?ehC_BadColumns ?eiC_BadColumns ?esC_BadColumns ?eai_BadColumns ?eti_BadColumns ?eli_BadColumns ?eci_BadColumns ?eki_BadColumns ?eg_BadText ?ex_BadText ?esa_BadText ?ega_BadText ?egg_BadText ?enf_BadText ?ekC_BadText ?eeC_BadText ?etC_BadText ?ehC_BadText ?eiC_BadText ?esC_BadText ?eai_BadText ?eti_BadText ?eli_BadText ?eci_BadText ?eki_BadText ?eg_BadCommand ?ex_BadCommand ?esa_BadCommand ?ega_BadCommand ?egg_BadCommand ?enf_BadCommand ?ekC_BadCommand ?eeC_BadCommand ?etC_BadCommand ?ehC_BadCommand ?eiC_BadCommand ?esC_BadCommand ?eai_BadCommand ?eti_BadCommand ?eli_BadCommand ?eci_BadCommand ?eki_BadCommand ?eg_NoOption ?ex_NoOption ?esa_NoOption ?ega_NoOption ?egg_NoOption ?enf_NoOption ?ekC_NoOption ?eeC_NoOption ?etC_NoOption ?ehC_NoOption ?eiC_NoOption ?esC_NoOption ?eai_NoOption ?eti_NoOption ?eli_NoOption ?eci_NoOption ?eki_NoOption ?eg_NoRow ?ex_NoRow ?esa_NoRow ?ega_NoRow ?egg_NoRow ?enf_NoRow ?ekC_NoRow ?eeC_NoRow ?etC_NoRow ?ehC_NoRow ?eiC_NoRow ?esC_NoRow ?eai_NoRow ?eti_NoRow ?eli_NoRow ?eci_NoRow ?eki_NoRow ?eg_NoSpan ?ex_NoSpan ?esa_NoSpan ?ega_NoSpan ?egg_NoSpan ?enf_NoSpan ?ekC_NoSpan ?eeC_NoSpan ?etC_NoSpan ?ehC_NoSpan ?eiC_NoSpan ?esC_NoSpan ?eai_NoSpan ?eti_NoSpan ?eli_NoSpan ?eci_NoSpan ?eki_NoSpan ?eg_NoName ?ex_NoName ?esa_NoName ?ega_NoName ?egg_NoName ?enf_NoName ?ekC_NoName ?eeC_NoName ?etC_NoName ?ehC_NoName ?eiC_NoName ?esC_NoName ?eai_NoName ?eti_NoName ?eli_NoName ?eci_NoName ?eki_NoName ?eg_TooMany ?ex_TooMany ?esa_TooMany ?ega_TooMany ?egg_TooMany ?enf_TooMany ?ekC_TooMany ?eeC_TooMany ?etC_TooMany ?ehC_TooMany ?eiC_TooMany ?esC_TooMany ?eai_TooMany ?eti_TooMany ?eli_TooMany ?eci_TooMany ?eki_TooMany ?eg_TooWide ?ex_TooWide ?esa_TooWide ?ega_TooWide ?egg_TooWide ?enf_TooWide ?ekC_TooWide ?eeC_TooWide ?etC_TooWide ?ehC_TooWide ?eiC_TooWide ?esC_TooWide ?eai_TooWide ?eti_TooWide ?eli_TooWide ?eci_TooWide ?eki_TooWide ?eg_TooFar ?ex_TooFar ?esa_TooFar ?ega_TooFar ?egg_TooFar ?enf_TooFar ?ekC_TooFar ?eeC_TooFar ?etC_TooFar ?ehC_TooFar ?eiC_TooFar ?esC_TooFar ?eai_TooFar ?eti_TooFar ?eli_TooFar ?eci_TooFar ?eki_TooFar ?eg_Endless ?ex_Endless ?esa_Endless ?ega_Endless ?egg_Endless ?enf_Endless ?ekC_Endless ?eeC_Endless ?etC_Endless ?ehC_Endless ?eiC_Endless ?esC_Endless ?eai_Endless ?eti_Endless ?eli_Endless ?eci_Endless ?eki_Endless ?eg_NoWindow ?ex_NoWindow ?esa_NoWindow ?ega_NoWindow ?egg_NoWindow ?enf_NoWindow ?ekC_NoWindow ?eeC_NoWindow ?etC_NoWindow ?ehC_NoWindow ?eiC_NoWindow ?esC_NoWindow ?eai_NoWindow ?eti_NoWindow ?eli_NoWindow ?eci_NoWindow ?eki_NoWindow ?eg_Unfit ?ex_Unfit ?esa_Unfit ?ega_Unfit ?egg_Unfit ?enf_Unfit ?ekC_Unfit ?eeC_Unfit ?etC_Unfit ?ehC_Unfit ?eiC_Unfit ?esC_Unfit ?eai_Unfit ?eti_Unfit ?eli_Unfit ?eci_Unfit ?eki_Unfit ?xps_BadEdge_ValueError ?xps_BadSpan_ValueError ?xps_BadWindow_ValueError ?xps_BadMoment_ValueError ?xps_BadEnds_ValueError ?xps_BadItem_ValueError ?xps_BadOrder_ValueError ?xps_BadTest_ValueError ?xps_BadDeed_ValueError ?xps_BadRule_ValueError ?xps_BadUse_ValueError ?xps_BadWish_ValueError ?xps_BadOption_ValueError ?xps_BadSweep_ValueError ?xps_BadLevel_ValueError ?xps_BadDay_ValueError ?xps_BadColumns_ValueError ?xps_BadText_ValueError ?xps_BadCommand_ValueError ?xps_NoOption_ValueError ?xps_NoRow_ValueError ?xps_NoSpan_ValueError ?xps_NoName_ValueError ?xps_TooMany_ValueError ?xps_TooWide_ValueError ?xps_TooFar_ValueError ?xps_Endless_ValueError ?xps_NoWindow_ValueError ?xps_Unfit_ValueError ?xps_BadEdge_LookupError ?xps_BadSpan_LookupError ?xps_BadWindow_LookupError ?xps_BadMoment_LookupError ?xps_BadEnds_LookupError ?xps_BadItem_LookupError ?xps_BadOrder_LookupError ?xps_BadTest_LookupError ?xps_BadDeed_LookupError ?xps_BadRule_LookupError ?xps_BadUse_LookupError ?xps_BadWish_LookupError ?xps_BadOption_LookupError ?xps_BadSweep_LookupError ?xps_BadLevel_LookupError ?xps_BadDay_LookupError ?xps_BadColumns_LookupError ?xps_BadText_LookupError ?xps_BadCommand_LookupError ?xps_NoOption_LookupError ?xps_NoRow_LookupError ?xps_NoSpan_LookupError ?xps_NoName_LookupError ?xps_TooMany_LookupError ?xps_TooWide_LookupError ?xps_TooFar_LookupError ?xps_Endless_LookupError ?xps_NoWindow_LookupError ?xps_Unfit_LookupError ?xps_BadEdge_OverflowError ?xps_BadSpan_OverflowError ?xps_BadWindow_OverflowError ?xps_BadMoment_OverflowError ?xps_BadEnds_OverflowError ?xps_BadItem_OverflowError ?xps_BadOrder_OverflowError ?xps_BadTest_OverflowError ?xps_BadDeed_OverflowError ?xps_BadRule_OverflowError ?xps_BadUse_OverflowError ?xps_BadWish_OverflowError ?xps_BadOption_OverflowError ?xps_BadSweep_OverflowError ?xps_BadLevel_OverflowError ?xps_BadDay_OverflowError ?xps_BadColumns_OverflowError ?xps_BadText_OverflowError ?xps_BadCommand_OverflowError ?xps_NoOption_OverflowError ?xps_NoRow_OverflowError ?xps_NoSpan_OverflowError ?xps_NoName_OverflowError ?xps_TooMany_OverflowError ?xps_TooWide_OverflowError ?xps_TooFar_OverflowError ?xps_Endless_OverflowError ?xps_NoWindow_OverflowError ?xps_Unfit_OverflowError ?xps_BadEdge_RuntimeError ?xps_BadSpan_RuntimeError ?xps_BadWindow_RuntimeError ?xps_BadMoment_RuntimeError ?xps_BadEnds_RuntimeError ?xps_BadItem_RuntimeError ?xps_BadOrder_RuntimeError ?xps_BadTest_RuntimeError ?xps_BadDeed_RuntimeError ?xps_BadRule_RuntimeError ?xps_BadUse_RuntimeError ?xps_BadWish_RuntimeError ?xps_BadOption_RuntimeError ?xps_BadSweep_RuntimeError ?xps_BadLevel_RuntimeError ?xps_BadDay_RuntimeError ?xps_BadColumns_RuntimeError ?xps_BadText_RuntimeError ?xps_BadCommand_RuntimeError ?xps_NoOption_RuntimeError ?xps_NoRow_RuntimeError ?xps_NoSpan_RuntimeError ?xps_NoName_RuntimeError ?xps_TooMany_RuntimeError ?xps_TooWide_RuntimeError ?xps_TooFar_RuntimeError ?xps_Endless_RuntimeError ?xps_NoWindow_RuntimeError ?xps_Unfit_RuntimeError ?xps_BadEdge_BadSpan ?xps_BadWindow_BadSpan ?xps_BadItem_BadSpan ?xps_BadEdge_BadItem ?xps_BadMoment_BadItem ?xps_BadColumns_BadItem ?xps_BadSpan_BadEdge ?xps_BadWindow_BadEdge ?xps_BadMoment_BadEdge ?xps_BadItem_BadEdge ?xps_BadSpan_BadWindow ?xps_BadEnds_BadWish ?xps_BadOrder_BadWish ?xps_BadOption_BadWish ?xps_BadSweep_BadWish ?xps_BadLevel_BadWish ?xps_BadText_BadWish ?xps_BadEnds_BadOption ?xps_BadSweep_BadOption ?xps_BadOrder_BadUse ?xps_BadRule_BadUse ?xps_BadCommand_BadUse ?xps_BadTest_BadRule ?xps_BadDeed_BadRule ?xps_BadUse_BadRule ?xps_BadTest_BadDeed ?xps_BadDeed_BadTest ?xps_BadRule_BadTest ?xps_BadUse_BadOrder ?xps_BadWish_BadEnds ?xps_BadWish_BadLevel ?xps_BadOption_BadSweep ?xps_BadLevel_BadSweep ?xps_BadDay_BadColumns ?xps_BadDay_BadMoment ?xps_BadColumns_BadDay ?xps_BadText_BadCommand ?xps_BadCommand_BadText ?xps_NoOption_NoName ?xps_NoSpan_NoName ?xps_NoOption_NoRow ?xps_NoSpan_NoRow ?xps_NoRow_NoSpan ?xps_NoName_NoSpan ?xps_NoRow_NoOption ?xps_NoName_NoOption ?xps_TooMany_TooWide ?xps_TooFar_TooWide ?xps_TooMany_TooFar ?xps_Endless_TooFar ?xps_TooWide_TooMany ?xps_Endless_TooMany ?xps_TooWide_Endless ?xps_TooFar_Endless ?xps_NoWindow_Unfit ?xps_Unfit_NoWindow ?xha_BadEdge ?xhm_BadEdge ?xha_BadSpan ?xhm_BadSpan ?xha_BadWindow ?xhm_BadWindow ?xha_BadMoment ?xhm_BadMoment ?xha_BadEnds ?xhm_BadEnds ?xha_BadItem ?xhm_BadItem ?xha_BadOrder ?xhm_BadOrder ?xha_BadTest ?xhm_BadTest ?xha_BadDeed ?xhm_BadDeed ?xha_BadRule ?xhm_BadRule ?xha_BadUse ?xhm_BadUse ?xha_BadWish ?xhm_BadWish ?xha_BadOption ?xhm_BadOption ?xha_BadSweep ?xhm_BadSweep ?xha_BadLevel ?xhm_BadLevel ?xha_BadDay ?xhm_BadDay ?xha_BadColumns ?xhm_BadColumns ?xha_BadText ?xhm_BadText ?xha_BadCommand ?xhm_BadCommand ?xha_NoOption ?xhm_NoOption ?xha_NoRow ?xhm_NoRow ?xha_NoSpan ?xhm_NoSpan ?xha_NoName ?xhm_NoName ?xha_TooMany ?xhm_TooMany ?xha_TooWide ?xhm_TooWide ?xha_TooFar ?xhm_TooFar ?xha_Endless ?xhm_Endless ?xha_NoWindow ?xhm_NoWindow ?xha_Unfit ?xhm_Unfit ?ic_n ?ic_t ?a_l_bag ?l_l_bag ?c_l_bag ?k_l_bag ?a_l_take ?l_l_take ?c_l_take ?k_l_take ?a_l_any ?l_l_any ?c_l_any ?k_l_any ?a_l_kinds ?l_l_kinds ?c_l_kinds ?k_l_kinds ?a_l_values ?l_l_values ?c_l_values ?k_l_values ?a_l_others ?l_l_others ?c_l_others ?k_l_others ?a_law ?l_law ?c_law ?k_law
    (case z_LookupError => k_is)
    (case z_OverflowError => k_is)
    (case z_RuntimeError => k_is)
    (case z_ValueError => k_is)
    (case z_abs => k_is)
    (case z_int => k_is)
    (case z_isinstance => k_is)
    (case z_len => k_is)
    (case z_max => k_is)
    (case z_min => k_is)
    (case z_range => k_is)
    (case z_repr => k_is)
    (case z_tuple => k_is)
    (case eg_BadEdge => k_is)
    (case ex_BadEdge => k_is)
    (case esa_BadEdge => k_is)
    (case ega_BadEdge => k_is)
    (case egg_BadEdge => k_is)
    (case enf_BadEdge => k_is)
    (case ekC_BadEdge => k_is)
    (case eeC_BadEdge => k_is)
    (case etC_BadEdge => k_is)
    (case ehC_BadEdge => k_is)
    (case eiC_BadEdge => k_is)
    (case esC_BadEdge => k_is)
    (case eai_BadEdge => k_is)
    (case eti_BadEdge => k_is)
    (case eli_BadEdge => k_is)
    (case eci_BadEdge => k_is)
    (case eki_BadEdge => k_is)
    (case eg_BadSpan => k_is)
    (case ex_BadSpan => k_is)
    (case esa_BadSpan => k_is)
    (case ega_BadSpan => k_is)
    (case egg_BadSpan => k_is)
    (case enf_BadSpan => k_is)
    (case ekC_BadSpan => k_is)
    (case eeC_BadSpan => k_is)
    (case etC_BadSpan => k_is)
    (case ehC_BadSpan => k_is)
    (case eiC_BadSpan => k_is)
    (case esC_BadSpan => k_is)
    (case eai_BadSpan => k_is)
    (case eti_BadSpan => k_is)
    (case eli_BadSpan => k_is)
    (case eci_BadSpan => k_is)
    (case eki_BadSpan => k_is)
    (case eg_BadWindow => k_is)
    (case ex_BadWindow => k_is)
    (case esa_BadWindow => k_is)
    (case ega_BadWindow => k_is)
    (case egg_BadWindow => k_is)
    (case enf_BadWindow => k_is)
    (case ekC_BadWindow => k_is)
    (case eeC_BadWindow => k_is)
    (case etC_BadWindow => k_is)
    (case ehC_BadWindow => k_is)
    (case eiC_BadWindow => k_is)
    (case esC_BadWindow => k_is)
    (case eai_BadWindow => k_is)
    (case eti_BadWindow => k_is)
    (case eli_BadWindow => k_is)
    (case eci_BadWindow => k_is)
    (case eki_BadWindow => k_is)
    (case eg_BadMoment => k_is)
    (case ex_BadMoment => k_is)
    (case esa_BadMoment => k_is)
    (case ega_BadMoment => k_is)
    (case egg_BadMoment => k_is)
    (case enf_BadMoment => k_is)
    (case ekC_BadMoment => k_is)
    (case eeC_BadMoment => k_is)
    (case etC_BadMoment => k_is)
    (case ehC_BadMoment => k_is)
    (case eiC_BadMoment => k_is)
    (case esC_BadMoment => k_is)
    (case eai_BadMoment => k_is)
    (case eti_BadMoment => k_is)
    (case eli_BadMoment => k_is)
    (case eci_BadMoment => k_is)
    (case eki_BadMoment => k_is)
    (case eg_BadEnds => k_is)
    (case ex_BadEnds => k_is)
    (case esa_BadEnds => k_is)
    (case ega_BadEnds => k_is)
    (case egg_BadEnds => k_is)
    (case enf_BadEnds => k_is)
    (case ekC_BadEnds => k_is)
    (case eeC_BadEnds => k_is)
    (case etC_BadEnds => k_is)
    (case ehC_BadEnds => k_is)
    (case eiC_BadEnds => k_is)
    (case esC_BadEnds => k_is)
    (case eai_BadEnds => k_is)
    (case eti_BadEnds => k_is)
    (case eli_BadEnds => k_is)
    (case eci_BadEnds => k_is)
    (case eki_BadEnds => k_is)
    (case eg_BadItem => k_is)
    (case ex_BadItem => k_is)
    (case esa_BadItem => k_is)
    (case ega_BadItem => k_is)
    (case egg_BadItem => k_is)
    (case enf_BadItem => k_is)
    (case ekC_BadItem => k_is)
    (case eeC_BadItem => k_is)
    (case etC_BadItem => k_is)
    (case ehC_BadItem => k_is)
    (case eiC_BadItem => k_is)
    (case esC_BadItem => k_is)
    (case eai_BadItem => k_is)
    (case eti_BadItem => k_is)
    (case eli_BadItem => k_is)
    (case eci_BadItem => k_is)
    (case eki_BadItem => k_is)
    (case eg_BadOrder => k_is)
    (case ex_BadOrder => k_is)
    (case esa_BadOrder => k_is)
    (case ega_BadOrder => k_is)
    (case egg_BadOrder => k_is)
    (case enf_BadOrder => k_is)
    (case ekC_BadOrder => k_is)
    (case eeC_BadOrder => k_is)
    (case etC_BadOrder => k_is)
    (case ehC_BadOrder => k_is)
    (case eiC_BadOrder => k_is)
    (case esC_BadOrder => k_is)
    (case eai_BadOrder => k_is)
    (case eti_BadOrder => k_is)
    (case eli_BadOrder => k_is)
    (case eci_BadOrder => k_is)
    (case eki_BadOrder => k_is)
    (case eg_BadTest => k_is)
    (case ex_BadTest => k_is)
    (case esa_BadTest => k_is)
    (case ega_BadTest => k_is)
    (case egg_BadTest => k_is)
    (case enf_BadTest => k_is)
    (case ekC_BadTest => k_is)
    (case eeC_BadTest => k_is)
    (case etC_BadTest => k_is)
    (case ehC_BadTest => k_is)
    (case eiC_BadTest => k_is)
    (case esC_BadTest => k_is)
    (case eai_BadTest => k_is)
    (case eti_BadTest => k_is)
    (case eli_BadTest => k_is)
    (case eci_BadTest => k_is)
    (case eki_BadTest => k_is)
    (case eg_BadDeed => k_is)
    (case ex_BadDeed => k_is)
    (case esa_BadDeed => k_is)
    (case ega_BadDeed => k_is)
    (case egg_BadDeed => k_is)
    (case enf_BadDeed => k_is)
    (case ekC_BadDeed => k_is)
    (case eeC_BadDeed => k_is)
    (case etC_BadDeed => k_is)
    (case ehC_BadDeed => k_is)
    (case eiC_BadDeed => k_is)
    (case esC_BadDeed => k_is)
    (case eai_BadDeed => k_is)
    (case eti_BadDeed => k_is)
    (case eli_BadDeed => k_is)
    (case eci_BadDeed => k_is)
    (case eki_BadDeed => k_is)
    (case eg_BadRule => k_is)
    (case ex_BadRule => k_is)
    (case esa_BadRule => k_is)
    (case ega_BadRule => k_is)
    (case egg_BadRule => k_is)
    (case enf_BadRule => k_is)
    (case ekC_BadRule => k_is)
    (case eeC_BadRule => k_is)
    (case etC_BadRule => k_is)
    (case ehC_BadRule => k_is)
    (case eiC_BadRule => k_is)
    (case esC_BadRule => k_is)
    (case eai_BadRule => k_is)
    (case eti_BadRule => k_is)
    (case eli_BadRule => k_is)
    (case eci_BadRule => k_is)
    (case eki_BadRule => k_is)
    (case eg_BadUse => k_is)
    (case ex_BadUse => k_is)
    (case esa_BadUse => k_is)
    (case ega_BadUse => k_is)
    (case egg_BadUse => k_is)
    (case enf_BadUse => k_is)
    (case ekC_BadUse => k_is)
    (case eeC_BadUse => k_is)
    (case etC_BadUse => k_is)
    (case ehC_BadUse => k_is)
    (case eiC_BadUse => k_is)
    (case esC_BadUse => k_is)
    (case eai_BadUse => k_is)
    (case eti_BadUse => k_is)
    (case eli_BadUse => k_is)
    (case eci_BadUse => k_is)
    (case eki_BadUse => k_is)
    (case eg_BadWish => k_is)
    (case ex_BadWish => k_is)
    (case esa_BadWish => k_is)
    (case ega_BadWish => k_is)
    (case egg_BadWish => k_is)
    (case enf_BadWish => k_is)
    (case ekC_BadWish => k_is)
    (case eeC_BadWish => k_is)
    (case etC_BadWish => k_is)
    (case ehC_BadWish => k_is)
    (case eiC_BadWish => k_is)
    (case esC_BadWish => k_is)
    (case eai_BadWish => k_is)
    (case eti_BadWish => k_is)
    (case eli_BadWish => k_is)
    (case eci_BadWish => k_is)
    (case eki_BadWish => k_is)
    (case eg_BadOption => k_is)
    (case ex_BadOption => k_is)
    (case esa_BadOption => k_is)
    (case ega_BadOption => k_is)
    (case egg_BadOption => k_is)
    (case enf_BadOption => k_is)
    (case ekC_BadOption => k_is)
    (case eeC_BadOption => k_is)
    (case etC_BadOption => k_is)
    (case ehC_BadOption => k_is)
    (case eiC_BadOption => k_is)
    (case esC_BadOption => k_is)
    (case eai_BadOption => k_is)
    (case eti_BadOption => k_is)
    (case eli_BadOption => k_is)
    (case eci_BadOption => k_is)
    (case eki_BadOption => k_is)
    (case eg_BadSweep => k_is)
    (case ex_BadSweep => k_is)
    (case esa_BadSweep => k_is)
    (case ega_BadSweep => k_is)
    (case egg_BadSweep => k_is)
    (case enf_BadSweep => k_is)
    (case ekC_BadSweep => k_is)
    (case eeC_BadSweep => k_is)
    (case etC_BadSweep => k_is)
    (case ehC_BadSweep => k_is)
    (case eiC_BadSweep => k_is)
    (case esC_BadSweep => k_is)
    (case eai_BadSweep => k_is)
    (case eti_BadSweep => k_is)
    (case eli_BadSweep => k_is)
    (case eci_BadSweep => k_is)
    (case eki_BadSweep => k_is)
    (case eg_BadLevel => k_is)
    (case ex_BadLevel => k_is)
    (case esa_BadLevel => k_is)
    (case ega_BadLevel => k_is)
    (case egg_BadLevel => k_is)
    (case enf_BadLevel => k_is)
    (case ekC_BadLevel => k_is)
    (case eeC_BadLevel => k_is)
    (case etC_BadLevel => k_is)
    (case ehC_BadLevel => k_is)
    (case eiC_BadLevel => k_is)
    (case esC_BadLevel => k_is)
    (case eai_BadLevel => k_is)
    (case eti_BadLevel => k_is)
    (case eli_BadLevel => k_is)
    (case eci_BadLevel => k_is)
    (case eki_BadLevel => k_is)
    (case eg_BadDay => k_is)
    (case ex_BadDay => k_is)
    (case esa_BadDay => k_is)
    (case ega_BadDay => k_is)
    (case egg_BadDay => k_is)
    (case enf_BadDay => k_is)
    (case ekC_BadDay => k_is)
    (case eeC_BadDay => k_is)
    (case etC_BadDay => k_is)
    (case ehC_BadDay => k_is)
    (case eiC_BadDay => k_is)
    (case esC_BadDay => k_is)
    (case eai_BadDay => k_is)
    (case eti_BadDay => k_is)
    (case eli_BadDay => k_is)
    (case eci_BadDay => k_is)
    (case eki_BadDay => k_is)
    (case eg_BadColumns => k_is)
    (case ex_BadColumns => k_is)
    (case esa_BadColumns => k_is)
    (case ega_BadColumns => k_is)
    (case egg_BadColumns => k_is)
    (case enf_BadColumns => k_is)
    (case ekC_BadColumns => k_is)
    (case eeC_BadColumns => k_is)
    (case etC_BadColumns => k_is)
    (case ehC_BadColumns => k_is)
    (case eiC_BadColumns => k_is)
    (case esC_BadColumns => k_is)
    (case eai_BadColumns => k_is)
    (case eti_BadColumns => k_is)
    (case eli_BadColumns => k_is)
    (case eci_BadColumns => k_is)
    (case eki_BadColumns => k_is)
    (case eg_BadText => k_is)
    (case ex_BadText => k_is)
    (case esa_BadText => k_is)
    (case ega_BadText => k_is)
    (case egg_BadText => k_is)
    (case enf_BadText => k_is)
    (case ekC_BadText => k_is)
    (case eeC_BadText => k_is)
    (case etC_BadText => k_is)
    (case ehC_BadText => k_is)
    (case eiC_BadText => k_is)
    (case esC_BadText => k_is)
    (case eai_BadText => k_is)
    (case eti_BadText => k_is)
    (case eli_BadText => k_is)
    (case eci_BadText => k_is)
    (case eki_BadText => k_is)
    (case eg_BadCommand => k_is)
    (case ex_BadCommand => k_is)
    (case esa_BadCommand => k_is)
    (case ega_BadCommand => k_is)
    (case egg_BadCommand => k_is)
    (case enf_BadCommand => k_is)
    (case ekC_BadCommand => k_is)
    (case eeC_BadCommand => k_is)
    (case etC_BadCommand => k_is)
    (case ehC_BadCommand => k_is)
    (case eiC_BadCommand => k_is)
    (case esC_BadCommand => k_is)
    (case eai_BadCommand => k_is)
    (case eti_BadCommand => k_is)
    (case eli_BadCommand => k_is)
    (case eci_BadCommand => k_is)
    (case eki_BadCommand => k_is)
    (case eg_NoOption => k_is)
    (case ex_NoOption => k_is)
    (case esa_NoOption => k_is)
    (case ega_NoOption => k_is)
    (case egg_NoOption => k_is)
    (case enf_NoOption => k_is)
    (case ekC_NoOption => k_is)
    (case eeC_NoOption => k_is)
    (case etC_NoOption => k_is)
    (case ehC_NoOption => k_is)
    (case eiC_NoOption => k_is)
    (case esC_NoOption => k_is)
    (case eai_NoOption => k_is)
    (case eti_NoOption => k_is)
    (case eli_NoOption => k_is)
    (case eci_NoOption => k_is)
    (case eki_NoOption => k_is)
    (case eg_NoRow => k_is)
    (case ex_NoRow => k_is)
    (case esa_NoRow => k_is)
    (case ega_NoRow => k_is)
    (case egg_NoRow => k_is)
    (case enf_NoRow => k_is)
    (case ekC_NoRow => k_is)
    (case eeC_NoRow => k_is)
    (case etC_NoRow => k_is)
    (case ehC_NoRow => k_is)
    (case eiC_NoRow => k_is)
    (case esC_NoRow => k_is)
    (case eai_NoRow => k_is)
    (case eti_NoRow => k_is)
    (case eli_NoRow => k_is)
    (case eci_NoRow => k_is)
    (case eki_NoRow => k_is)
    (case eg_NoSpan => k_is)
    (case ex_NoSpan => k_is)
    (case esa_NoSpan => k_is)
    (case ega_NoSpan => k_is)
    (case egg_NoSpan => k_is)
    (case enf_NoSpan => k_is)
    (case ekC_NoSpan => k_is)
    (case eeC_NoSpan => k_is)
    (case etC_NoSpan => k_is)
    (case ehC_NoSpan => k_is)
    (case eiC_NoSpan => k_is)
    (case esC_NoSpan => k_is)
    (case eai_NoSpan => k_is)
    (case eti_NoSpan => k_is)
    (case eli_NoSpan => k_is)
    (case eci_NoSpan => k_is)
    (case eki_NoSpan => k_is)
    (case eg_NoName => k_is)
    (case ex_NoName => k_is)
    (case esa_NoName => k_is)
    (case ega_NoName => k_is)
    (case egg_NoName => k_is)
    (case enf_NoName => k_is)
    (case ekC_NoName => k_is)
    (case eeC_NoName => k_is)
    (case etC_NoName => k_is)
    (case ehC_NoName => k_is)
    (case eiC_NoName => k_is)
    (case esC_NoName => k_is)
    (case eai_NoName => k_is)
    (case eti_NoName => k_is)
    (case eli_NoName => k_is)
    (case eci_NoName => k_is)
    (case eki_NoName => k_is)
    (case eg_TooMany => k_is)
    (case ex_TooMany => k_is)
    (case esa_TooMany => k_is)
    (case ega_TooMany => k_is)
    (case egg_TooMany => k_is)
    (case enf_TooMany => k_is)
    (case ekC_TooMany => k_is)
    (case eeC_TooMany => k_is)
    (case etC_TooMany => k_is)
    (case ehC_TooMany => k_is)
    (case eiC_TooMany => k_is)
    (case esC_TooMany => k_is)
    (case eai_TooMany => k_is)
    (case eti_TooMany => k_is)
    (case eli_TooMany => k_is)
    (case eci_TooMany => k_is)
    (case eki_TooMany => k_is)
    (case eg_TooWide => k_is)
    (case ex_TooWide => k_is)
    (case esa_TooWide => k_is)
    (case ega_TooWide => k_is)
    (case egg_TooWide => k_is)
    (case enf_TooWide => k_is)
    (case ekC_TooWide => k_is)
    (case eeC_TooWide => k_is)
    (case etC_TooWide => k_is)
    (case ehC_TooWide => k_is)
    (case eiC_TooWide => k_is)
    (case esC_TooWide => k_is)
    (case eai_TooWide => k_is)
    (case eti_TooWide => k_is)
    (case eli_TooWide => k_is)
    (case eci_TooWide => k_is)
    (case eki_TooWide => k_is)
    (case eg_TooFar => k_is)
    (case ex_TooFar => k_is)
    (case esa_TooFar => k_is)
    (case ega_TooFar => k_is)
    (case egg_TooFar => k_is)
    (case enf_TooFar => k_is)
    (case ekC_TooFar => k_is)
    (case eeC_TooFar => k_is)
    (case etC_TooFar => k_is)
    (case ehC_TooFar => k_is)
    (case eiC_TooFar => k_is)
    (case esC_TooFar => k_is)
    (case eai_TooFar => k_is)
    (case eti_TooFar => k_is)
    (case eli_TooFar => k_is)
    (case eci_TooFar => k_is)
    (case eki_TooFar => k_is)
    (case eg_Endless => k_is)
    (case ex_Endless => k_is)
    (case esa_Endless => k_is)
    (case ega_Endless => k_is)
    (case egg_Endless => k_is)
    (case enf_Endless => k_is)
    (case ekC_Endless => k_is)
    (case eeC_Endless => k_is)
    (case etC_Endless => k_is)
    (case ehC_Endless => k_is)
    (case eiC_Endless => k_is)
    (case esC_Endless => k_is)
    (case eai_Endless => k_is)
    (case eti_Endless => k_is)
    (case eli_Endless => k_is)
    (case eci_Endless => k_is)
    (case eki_Endless => k_is)
    (case eg_NoWindow => k_is)
    (case ex_NoWindow => k_is)
    (case esa_NoWindow => k_is)
    (case ega_NoWindow => k_is)
    (case egg_NoWindow => k_is)
    (case enf_NoWindow => k_is)
    (case ekC_NoWindow => k_is)
    (case eeC_NoWindow => k_is)
    (case etC_NoWindow => k_is)
    (case ehC_NoWindow => k_is)
    (case eiC_NoWindow => k_is)
    (case esC_NoWindow => k_is)
    (case eai_NoWindow => k_is)
    (case eti_NoWindow => k_is)
    (case eli_NoWindow => k_is)
    (case eci_NoWindow => k_is)
    (case eki_NoWindow => k_is)
    (case eg_Unfit => k_is)
    (case ex_Unfit => k_is)
    (case esa_Unfit => k_is)
    (case ega_Unfit => k_is)
    (case egg_Unfit => k_is)
    (case enf_Unfit => k_is)
    (case ekC_Unfit => k_is)
    (case eeC_Unfit => k_is)
    (case etC_Unfit => k_is)
    (case ehC_Unfit => k_is)
    (case eiC_Unfit => k_is)
    (case esC_Unfit => k_is)
    (case eai_Unfit => k_is)
    (case eti_Unfit => k_is)
    (case eli_Unfit => k_is)
    (case eci_Unfit => k_is)
    (case eki_Unfit => k_is)
    (case xps_BadEdge_ValueError => k_is)
    (case xps_BadSpan_ValueError => k_is)
    (case xps_BadWindow_ValueError => k_is)
    (case xps_BadMoment_ValueError => k_is)
    (case xps_BadEnds_ValueError => k_is)
    (case xps_BadItem_ValueError => k_is)
    (case xps_BadOrder_ValueError => k_is)
    (case xps_BadTest_ValueError => k_is)
    (case xps_BadDeed_ValueError => k_is)
    (case xps_BadRule_ValueError => k_is)
    (case xps_BadUse_ValueError => k_is)
    (case xps_BadWish_ValueError => k_is)
    (case xps_BadOption_ValueError => k_is)
    (case xps_BadSweep_ValueError => k_is)
    (case xps_BadLevel_ValueError => k_is)
    (case xps_BadDay_ValueError => k_is)
    (case xps_BadColumns_ValueError => k_is)
    (case xps_BadText_ValueError => k_is)
    (case xps_BadCommand_ValueError => k_is)
    (case xps_NoOption_ValueError => k_is)
    (case xps_NoRow_ValueError => k_is)
    (case xps_NoSpan_ValueError => k_is)
    (case xps_NoName_ValueError => k_is)
    (case xps_TooMany_ValueError => k_is)
    (case xps_TooWide_ValueError => k_is)
    (case xps_TooFar_ValueError => k_is)
    (case xps_Endless_ValueError => k_is)
    (case xps_NoWindow_ValueError => k_is)
    (case xps_Unfit_ValueError => k_is)
    (case xps_BadEdge_LookupError => k_is)
    (case xps_BadSpan_LookupError => k_is)
    (case xps_BadWindow_LookupError => k_is)
    (case xps_BadMoment_LookupError => k_is)
    (case xps_BadEnds_LookupError => k_is)
    (case xps_BadItem_LookupError => k_is)
    (case xps_BadOrder_LookupError => k_is)
    (case xps_BadTest_LookupError => k_is)
    (case xps_BadDeed_LookupError => k_is)
    (case xps_BadRule_LookupError => k_is)
    (case xps_BadUse_LookupError => k_is)
    (case xps_BadWish_LookupError => k_is)
    (case xps_BadOption_LookupError => k_is)
    (case xps_BadSweep_LookupError => k_is)
    (case xps_BadLevel_LookupError => k_is)
    (case xps_BadDay_LookupError => k_is)
    (case xps_BadColumns_LookupError => k_is)
    (case xps_BadText_LookupError => k_is)
    (case xps_BadCommand_LookupError => k_is)
    (case xps_NoOption_LookupError => k_is)
    (case xps_NoRow_LookupError => k_is)
    (case xps_NoSpan_LookupError => k_is)
    (case xps_NoName_LookupError => k_is)
    (case xps_TooMany_LookupError => k_is)
    (case xps_TooWide_LookupError => k_is)
    (case xps_TooFar_LookupError => k_is)
    (case xps_Endless_LookupError => k_is)
    (case xps_NoWindow_LookupError => k_is)
    (case xps_Unfit_LookupError => k_is)
    (case xps_BadEdge_OverflowError => k_is)
    (case xps_BadSpan_OverflowError => k_is)
    (case xps_BadWindow_OverflowError => k_is)
    (case xps_BadMoment_OverflowError => k_is)
    (case xps_BadEnds_OverflowError => k_is)
    (case xps_BadItem_OverflowError => k_is)
    (case xps_BadOrder_OverflowError => k_is)
    (case xps_BadTest_OverflowError => k_is)
    (case xps_BadDeed_OverflowError => k_is)
    (case xps_BadRule_OverflowError => k_is)
    (case xps_BadUse_OverflowError => k_is)
    (case xps_BadWish_OverflowError => k_is)
    (case xps_BadOption_OverflowError => k_is)
    (case xps_BadSweep_OverflowError => k_is)
    (case xps_BadLevel_OverflowError => k_is)
    (case xps_BadDay_OverflowError => k_is)
    (case xps_BadColumns_OverflowError => k_is)
    (case xps_BadText_OverflowError => k_is)
    (case xps_BadCommand_OverflowError => k_is)
    (case xps_NoOption_OverflowError => k_is)
    (case xps_NoRow_OverflowError => k_is)
    (case xps_NoSpan_OverflowError => k_is)
    (case xps_NoName_OverflowError => k_is)
    (case xps_TooMany_OverflowError => k_is)
    (case xps_TooWide_OverflowError => k_is)
    (case xps_TooFar_OverflowError => k_is)
    (case xps_Endless_OverflowError => k_is)
    (case xps_NoWindow_OverflowError => k_is)
    (case xps_Unfit_OverflowError => k_is)
    (case xps_BadEdge_RuntimeError => k_is)
    (case xps_BadSpan_RuntimeError => k_is)
    (case xps_BadWindow_RuntimeError => k_is)
    (case xps_BadMoment_RuntimeError => k_is)
    (case xps_BadEnds_RuntimeError => k_is)
    (case xps_BadItem_RuntimeError => k_is)
    (case xps_BadOrder_RuntimeError => k_is)
    (case xps_BadTest_RuntimeError => k_is)
    (case xps_BadDeed_RuntimeError => k_is)
    (case xps_BadRule_RuntimeError => k_is)
    (case xps_BadUse_RuntimeError => k_is)
    (case xps_BadWish_RuntimeError => k_is)
    (case xps_BadOption_RuntimeError => k_is)
    (case xps_BadSweep_RuntimeError => k_is)
    (case xps_BadLevel_RuntimeError => k_is)
    (case xps_BadDay_RuntimeError => k_is)
    (case xps_BadColumns_RuntimeError => k_is)
    (case xps_BadText_RuntimeError => k_is)
    (case xps_BadCommand_RuntimeError => k_is)
    (case xps_NoOption_RuntimeError => k_is)
    (case xps_NoRow_RuntimeError => k_is)
    (case xps_NoSpan_RuntimeError => k_is)
    (case xps_NoName_RuntimeError => k_is)
    (case xps_TooMany_RuntimeError => k_is)
    (case xps_TooWide_RuntimeError => k_is)
    (case xps_TooFar_RuntimeError => k_is)
    (case xps_Endless_RuntimeError => k_is)
    (case xps_NoWindow_RuntimeError => k_is)
    (case xps_Unfit_RuntimeError => k_is)
    (case xps_BadEdge_BadSpan => k_is)
    (case xps_BadWindow_BadSpan => k_is)
    (case xps_BadItem_BadSpan => k_is)
    (case xps_BadEdge_BadItem => k_is)
    (case xps_BadMoment_BadItem => k_is)
    (case xps_BadColumns_BadItem => k_is)
    (case xps_BadSpan_BadEdge => k_is)
    (case xps_BadWindow_BadEdge => k_is)
    (case xps_BadMoment_BadEdge => k_is)
    (case xps_BadItem_BadEdge => k_is)
    (case xps_BadSpan_BadWindow => k_is)
    (case xps_BadEnds_BadWish => k_is)
    (case xps_BadOrder_BadWish => k_is)
    (case xps_BadOption_BadWish => k_is)
    (case xps_BadSweep_BadWish => k_is)
    (case xps_BadLevel_BadWish => k_is)
    (case xps_BadText_BadWish => k_is)
    (case xps_BadEnds_BadOption => k_is)
    (case xps_BadSweep_BadOption => k_is)
    (case xps_BadOrder_BadUse => k_is)
    (case xps_BadRule_BadUse => k_is)
    (case xps_BadCommand_BadUse => k_is)
    (case xps_BadTest_BadRule => k_is)
    (case xps_BadDeed_BadRule => k_is)
    (case xps_BadUse_BadRule => k_is)
    (case xps_BadTest_BadDeed => k_is)
    (case xps_BadDeed_BadTest => k_is)
    (case xps_BadRule_BadTest => k_is)
    (case xps_BadUse_BadOrder => k_is)
    (case xps_BadWish_BadEnds => k_is)
    (case xps_BadWish_BadLevel => k_is)
    (case xps_BadOption_BadSweep => k_is)
    (case xps_BadLevel_BadSweep => k_is)
    (case xps_BadDay_BadColumns => k_is)
    (case xps_BadDay_BadMoment => k_is)
    (case xps_BadColumns_BadDay => k_is)
    (case xps_BadText_BadCommand => k_is)
    (case xps_BadCommand_BadText => k_is)
    (case xps_NoOption_NoName => k_is)
    (case xps_NoSpan_NoName => k_is)
    (case xps_NoOption_NoRow => k_is)
    (case xps_NoSpan_NoRow => k_is)
    (case xps_NoRow_NoSpan => k_is)
    (case xps_NoName_NoSpan => k_is)
    (case xps_NoRow_NoOption => k_is)
    (case xps_NoName_NoOption => k_is)
    (case xps_TooMany_TooWide => k_is)
    (case xps_TooFar_TooWide => k_is)
    (case xps_TooMany_TooFar => k_is)
    (case xps_Endless_TooFar => k_is)
    (case xps_TooWide_TooMany => k_is)
    (case xps_Endless_TooMany => k_is)
    (case xps_TooWide_Endless => k_is)
    (case xps_TooFar_Endless => k_is)
    (case xps_NoWindow_Unfit => k_is)
    (case xps_Unfit_NoWindow => k_is)
    (case xha_BadEdge => k_is)
    (case xhm_BadEdge => k_is)
    (case xha_BadSpan => k_is)
    (case xhm_BadSpan => k_is)
    (case xha_BadWindow => k_is)
    (case xhm_BadWindow => k_is)
    (case xha_BadMoment => k_is)
    (case xhm_BadMoment => k_is)
    (case xha_BadEnds => k_is)
    (case xhm_BadEnds => k_is)
    (case xha_BadItem => k_is)
    (case xhm_BadItem => k_is)
    (case xha_BadOrder => k_is)
    (case xhm_BadOrder => k_is)
    (case xha_BadTest => k_is)
    (case xhm_BadTest => k_is)
    (case xha_BadDeed => k_is)
    (case xhm_BadDeed => k_is)
    (case xha_BadRule => k_is)
    (case xhm_BadRule => k_is)
    (case xha_BadUse => k_is)
    (case xhm_BadUse => k_is)
    (case xha_BadWish => k_is)
    (case xhm_BadWish => k_is)
    (case xha_BadOption => k_is)
    (case xhm_BadOption => k_is)
    (case xha_BadSweep => k_is)
    (case xhm_BadSweep => k_is)
    (case xha_BadLevel => k_is)
    (case xhm_BadLevel => k_is)
    (case xha_BadDay => k_is)
    (case xhm_BadDay => k_is)
    (case xha_BadColumns => k_is)
    (case xhm_BadColumns => k_is)
    (case xha_BadText => k_is)
    (case xhm_BadText => k_is)
    (case xha_BadCommand => k_is)
    (case xhm_BadCommand => k_is)
    (case xha_NoOption => k_is)
    (case xhm_NoOption => k_is)
    (case xha_NoRow => k_is)
    (case xhm_NoRow => k_is)
    (case xha_NoSpan => k_is)
    (case xhm_NoSpan => k_is)
    (case xha_NoName => k_is)
    (case xhm_NoName => k_is)
    (case xha_TooMany => k_is)
    (case xhm_TooMany => k_is)
    (case xha_TooWide => k_is)
    (case xhm_TooWide => k_is)
    (case xha_TooFar => k_is)
    (case xhm_TooFar => k_is)
    (case xha_Endless => k_is)
    (case xhm_Endless => k_is)
    (case xha_NoWindow => k_is)
    (case xhm_NoWindow => k_is)
    (case xha_Unfit => k_is)
    (case xhm_Unfit => k_is)
    (case ic_n => k_is)
    (case ic_t => k_is)
    (case a_l_bag => k_is)
    (case l_l_bag => k_is)
    (case c_l_bag => k_is)
    (case k_l_bag => k_is)
    (case a_l_take => k_is)
    (case l_l_take => k_is)
    (case c_l_take => k_is)
    (case k_l_take => k_is)
    (case a_l_any => k_is)
    (case l_l_any => k_is)
    (case c_l_any => k_is)
    (case k_l_any => k_is)
    (case a_l_kinds => k_is)
    (case l_l_kinds => k_is)
    (case c_l_kinds => k_is)
    (case k_l_kinds => k_is)
    (case a_l_values => k_is)
    (case l_l_values => k_is)
    (case c_l_values => k_is)
    (case k_l_values => k_is)
    (case a_l_others => k_is)
    (case l_l_others => k_is)
    (case c_l_others => k_is)
    (case k_l_others => k_is)
    (case a_law => k_is)
    (case l_law => k_is)
    (case c_law => k_is)
    (case k_law => k_is)
