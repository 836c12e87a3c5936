import PyProof.Rows.All
import Wide.All
import OpenK.AllK
import Wide.FinOn
import PySem.Challenge.RW_spanloops_k06_spans_shifted
import HandS.ForMost
import HandS.Wide
import HandS.Walk
import HandS.SortRule
import HandS.Defaults
import HandS.IsInst
import HandS.ClsMeth
import HandS.TupLe
import KE.GoesMore
import HandS.MakeKwOnly
import HandS.Property
import KE.KRevSl
import HandS.SortInts
import HandS.More
import HandS.Strs
import HandS.SetFor
import HandS.Rev
import HandS.RevTup
import KE.KDictZip
import KE.KTurns
import HandS.TupAny
import HandS.ForExc
import HandS.TryMany
import HandS.ExcInit
import HandS.ExcField
import HandS.ExcIs
import HandS.CallSlots
import KE.KExcIs
import HandS.Deep
import HandS.Star
import KE.KExcInit
import PyProof.ExcBaseAll.OverflowError
import PyProof.ExcBaseAll.LookupError
import PyProof.ExcBaseAll.RuntimeError
import HandS.OwnEq
import KE.KOpsOwn
import HandS.Flow
import HandS.RaiseMore
import HandS.Text
import KE.SortData
import HandS.Zip
import PyProof.TupleOfGen
import HandS.Style
import HandS.Small
set_option Elab.async false
set_option linter.all false
set_option maxRecDepth 100000
set_option maxHeartbeats 4000000
namespace Spk
open PySem PySem.Spec PyProof.Rows L2
/-! Defs that are run where no repr is under way: the layer's rule of a def, with that known of the place. -/
structure FnG (P : Program) (w : World) (K : PySem.W.Frag) (mg : Str → Option Value) (bh : Heap) (k : Nat) (f : Addr) (fd : FuncData) (ps : List Str) (sp : Sp) : Prop where
  lenG : ∀ ws J R U, sp ws J R U → ws.length = ps.length
  runG : ∀ (B : Around) (ou : List Env) (t : Shared) (J : Hp) (ar : Args) (xs : List Value) (ws : List V) (R : VK) (U : XK), B.guards = some [] → Room k B →
    Env0 P w K mg bh B ou t J → BindsTo t fd ar (ps.zip xs) → Vals ws xs → sp ws J R U →
    codeAny (model P w) B (.call (.ref f) ar) (CR CX0 ou P w J t R U) t
section
variable {P : Program} {w : World} {K : PySem.W.Frag} {mg : Str → Option Value} {bh : Heap}
theorem fnG_of {k : Nat} {f : Addr} {nm qu : Str} {pr : Arguments} {bd : List Stmt} {sc : Scope} {v1 v2 v3 v4 v5 v6 v7 : Value} {o1 o2 : Option Addr}
    {sl : Array (Option Value)} {N ps : List Str} {sp : Sp}
    (lk : K.lookup f = some ⟨v7, o2, .func (PySem.W.fnOf nm qu pr bd sc v1 v2 v3 v4 o1 v5 v6), sl⟩)
    (hcd : PySem.W.codeIn K v5 qu = true) (S : FnScope N ps sc)
    (ln : ∀ ws J R U, sp ws J R U → ws.length = ps.length)
    (hb : ∀ (B : Around) (ou : List Env) (t : Shared) (J : Hp) (ws : List V) (R : VK) (U : XK), B.guards = some [] →
      Room k (B.deeper (envOfC qu sc t.heap.objs.size f v5)) → sp ws J R U →
      ∃ tr, PSs (cxOf CX0 P w K mg bh N qu sc f v5 B ou t J U) bd tr ∧ tr { nx := fun _ J' => R .non J', rt := R } (L2.start N ws) J) :
    FnG P w K mg bh (k + 1) f (PySem.W.fnOf nm qu pr bd sc v1 v2 v3 v4 o1 v5 v6) ps sp := by
  refine ⟨ln, fun B ou t J ar xs ws R U hgd rm e0 bi rl hsp => ?_⟩
  have hlen := ln _ _ _ _ hsp
  have kin : K.In t.heap := e0.mod.kin.keeps fun z y q => (e0.bs z y q).1
  have nol : t.heap.NoLimit := e0.mod.nolimit.keeps fun z y q => (e0.bs z y q).1
  refine codeAny_call_function rm.depth (kin _ _ lk) rfl S.co S.gen rfl (PySem.W.codeRec_of kin hcd) (bi _ _ _ _ ?_)
  refine wpAny_newFunctionEnv_cells S.kind ?_ fun en hen s1 ic => ?_
  · rintro ⟨n, v⟩ hy
    exact (S.par n (List.of_mem_zip hy).1).imp id fun q => ⟨q, PySem.W.cellsFrom_some _ _ _ (.inl q)⟩
  · subst hen
    refine ⟨nol.keeps ic.toInCall.keep, codeAny_func ?_⟩
    obtain ⟨tr, htr, hq⟩ := hb B ou t J ws R U hgd (rm.deeper _) hsp
    have iv : Inv (cxOf CX0 P w K mg bh N qu sc f v5 B ou t J U) [] (L2.start N ws) J s1 := inv_start S rm.hd e0 hlen rl ic
    refine wpAny_mono (htr.run [] s1 (L2.start N ws) J _ iv hq) (fun fl s2 hs => ?_) fun _ _ hs => hs
    cases fl with
    | ret u =>
      obtain ⟨v, _, J', I', rv, q⟩ := hs
      exact ⟨v, J', I'.os, I'.bare, I'.base, I'.hok, rv, q⟩
    | next =>
      obtain ⟨_, J', I', q⟩ := hs
      exact ⟨.non, J', I'.os, I'.bare, I'.base, I'.hok, rfl, q⟩
    | brk => exact hs.elim fun _ h => h.elim fun _ h => h.2.elim
    | cont => exact hs.elim fun _ h => h.elim fun _ h => h.2.elim
theorem Fun.okG {x qu : Str} {st : Stmt} {f : Addr} {fd : FuncData} {N ps : List Str} {k : Nat} {sp : Sp} (F : Fun K x qu st f fd) (S : FnScope N ps (defScope st))
    (ln : ∀ ws J R U, sp ws J R U → ws.length = ps.length)
    (hb : ∀ (cv : Value) (B : Around) (ou : List Env) (t : Shared) (J : Hp) (ws : List V) (R : VK) (U : XK), B.guards = some [] →
      Room k (B.deeper (envOfC qu (defScope st) t.heap.objs.size f cv)) → sp ws J R U →
      ∃ tr, PSs (cxOf CX0 P w K mg bh N qu (defScope st) f cv B ou t J U).nox (defBody st) tr ∧ tr { nx := fun _ J' => R .non J', rt := R } (L2.start N ws) J) :
    FnG P w K mg bh (k + 1) f fd ps sp := by
  obtain ⟨_, _, _, _, _, _, cv, _, _, rfl, lk, hcd⟩ := F.ex
  refine fnG_of lk hcd S ln fun B ou t J ws R U hgd rm hsp => ?_
  obtain ⟨tr, h, q⟩ := hb cv B ou t J ws R U hgd rm hsp
  exact ⟨tr, h.nox, q⟩
theorem FnG.of {k : Nat} {f : Addr} {fd : FuncData} {ps : List Str} {sp : Sp} (F : FnOk P w K mg bh CX0 k f fd ps sp) : FnG P w K mg bh k f fd ps sp :=
  ⟨F.len, fun B ou t J ar xs ws R U _ rm e0 bi rl h => F.run B ou t J ar xs ws R U rm e0 bi rl h⟩
end
section
variable {X : Cx} {k : Nat} {f : Addr} {fd : FuncData} {ps : List Str} {sp : Sp} {dvs : List V} {ds : List Value} {x : Str} {p pos : Pos} {e : Expr} {es : List Expr} {t : TA}
theorem run_fnG {pins : List (Addr × Obj)} {σ : L2.St} {J : Hp} {s : Shared} {R : VK} {xs : List Value} {ws : List V} (F : FnG X.prog X.w X.K X.mg X.base k f fd ps sp) (gd : X.A.guards = some []) (rm : Room k X.A)
    (bi : Binds X.K fd ps ds) (dd : Vals dvs ds) (I : Inv X pins σ J s) (rl : Vals ws xs) (h : sp (ws ++ dvs) J R E0) :
    wpAny (model X.prog X.w) X.A (call (.ref f) xs) (EP X pins σ R) X.xe s := by
  have r2 : Vals (ws ++ dvs) (xs ++ ds) := rl.append dd
  have hl : (xs ++ ds).length = ps.length := r2.length.symm.trans (F.lenG _ _ _ _ h)
  refine wpAny_call (codeAny_mono (F.runG X.A X.stack s J ⟨xs, []⟩ (xs ++ ds) (ws ++ dvs) R E0 gd rm I.env0 (bi s xs I.kIn hl) r2 h) fun r s' hq => ?_)
  match r, hq with
  | .ok (.ret u), hq => exact I.after hq
/-- f(e, ..), f a def that wants no repr under way -/
theorem pe_callG (F : FnG X.prog X.w X.K X.mg X.base k f fd ps sp) (gd : X.A.guards = some []) (rm : Room k X.A) (hg : Gl X x) (hm : X.mg x = some (.ref f)) (hk : PySem.W.keepIn X.K (.ref f) = true)
    (bi : Binds X.K fd ps ds) (dd : Vals dvs ds) (ha : PA X (e :: es) t) (hdb : (x == ("__debug__" : Str)) = false := by decide)
    (he : starEach (e :: es) X.env = (false, eval e X.env) :: starEach es X.env := by rfl) (hpl : (backTo pos (starEach es X.env)).any (·.1) = false := by rfl) :
    PE X (.Call (.Name x p) (e :: es) [] pos) (tCall sp dvs E0 t) := by
  refine ⟨fun pins s σ J R I h => wpAny_Call_Name_kw (ld_glob I hg hm ?_ hdb)⟩
  refine PySem.W.callWith_K (h₀ := X.base) I.ok.mod.kin hk (thn (ha.run pos pins s σ J _ I h) fun xs s1 hh => ?_) he hpl
  obtain ⟨ws, J1, I1, rl, q⟩ := hh
  exact ⟨I1.kIn, run_fnG F gd rm bi dd I1 rl q⟩
/-- repr of data: None, bools, ints, texts, lists and tuples of these, where no repr is under way -/
def rRepr (K : PySem.W.Frag) : List V → Hp → VK → Prop := fun xs J R => ∃ (x : V) (d : PyData), xs = [x] ∧ Dp K J x d ∧ d.showable = true ∧ d.hasDict = false ∧ d.depth ≤ 64 ∧ d.shown.length ≤ sizeLine ∧ R (.str d.shown) J
theorem call_reprD (gd : X.A.guards = some []) (rm : Room k X.A) : CallR X (.builtin "repr") (rRepr X.K) := by
  intro pins s σ J xs us R I r h
  obtain ⟨x, d, rfl, dp, hs, hnd, hdep, hz, q⟩ := h
  have hu : X.A.units + (d.depth + 1) < cLine := by have := rm.un; omega
  obtain ⟨u, rfl, ru⟩ := vals1 r
  obtain ⟨as, rd⟩ := Dp.reads I d x u dp ru
  have fin : ∀ h' tk, (∀ b o, s.heap.get? b = some o → h'.get? b = some o) → ∀ t, EP X pins σ R (.str d.shown t) { s with heap := h', toks := tk } := fun h' tk hk t =>
    ⟨.str d.shown, J, I.kept (t' := tk) hk, ⟨t, rfl⟩, q⟩
  cases dp with
  | non =>
    obtain rfl : u = Value.none := ru
    refine PySem.P.repr_of_none ?_
    have := fin s.heap (s.toks + 1) (fun _ _ z => z) s.toks
    simpa only [PyData.shown_none] using this
  | bl b =>
    obtain rfl : u = Value.bool b := ru
    refine PySem.P.repr_of_bool ?_
    have := fin s.heap (s.toks + 1) (fun _ _ z => z) s.toks
    simp only [PyData.shown_bool] at this
    cases b <;> exact this
  | int i =>
    obtain ⟨t, rfl⟩ := ru
    refine PySem.P.repr_of_int (by simpa [PyData.showable] using hs) ?_
    have := fin s.heap (s.toks + 1) (fun _ _ z => z) s.toks
    simpa only [PyData.shown_int] using this
  | str y =>
    obtain ⟨t, rfl⟩ := ru
    refine PySem.P.repr_of_str ?_ (by simpa only [PyData.shown_str] using hz)
    have := fin s.heap (s.toks + 1) (fun _ _ z => z) s.toks
    simpa only [PyData.shown_str] using this
  | @lst a ys ds sq da =>
    obtain rfl : u = Value.ref a := ru
    exact repr_of_reads' rd hs (fun z => absurd z (by rw [hnd]; decide)) gd hu (fun _ _ z => z) (fun h' t tk hk => fin h' tk hk t) hz
  | @tup a ys ds sq da =>
    obtain rfl : u = Value.ref a := ru
    exact repr_of_reads' rd hs (fun z => absurd z (by rw [hnd]; decide)) gd hu (fun _ _ z => z) (fun h' t tk hk => fin h' tk hk t) hz
end
end Spk

namespace Spk
open PySem PySem.Spec PyProof.Rows L2
open AutoSeq1 (wpAny_loadPart')
theorem enumT_new (t : Addr) (its : Array Value) (n : Nat) (dct : Option Addr) (sl : Array (Option Value)) :
    Meets (Builtin.«enumerate.__new__» ⟨[.type "enumerate", .ref t], []⟩) (fun _ R s => s.heap.get? t = some { cls := .type "tuple", dict := dct, data := .seq its n, slots := sl } ∧
      R (.ok (.ret (.ref (s.heap.push { cls := .type "tuple_iterator", data := .fields #[.ref t, .int 0 0] }).objs.size)))
        { s with heap := (s.heap.push { cls := .type "tuple_iterator", data := .fields #[.ref t, .int 0 0] }).push { cls := .type "enumerate", data := .fields #[.none, .bool false, .ref s.heap.objs.size, rawInt 0, .none, .none] } }) :=
  .of_wp fun prog w A R s h => by
    obtain ⟨hp, g, d, tk, os⟩ := s; obtain ⟨ht, h⟩ := h
    have hsub := sub_enumerate
    have hT : Heap.IsTuple (Shared.heap ⟨hp, g, d, tk, os⟩) t its := ⟨_, ht, rfl, n, rfl⟩
    wp_walk using wpAny_loadPart' ht
    refine wpAny_stack_any fun st => wpAny_pure ?_
    split
    · rename_i c _ _ _ _ _
      cases (c == Value.type "enumerate") <;> (wp_walk using wpAny_loadPart' ht, wpAny_pyIter_tuple hT; exact ⟨_, rfl, h⟩)
    · wp_walk using wpAny_loadPart' ht, wpAny_pyIter_tuple hT
      exact ⟨_, rfl, h⟩
theorem mem2 {α : Type} {b x y : α} (h : b ∈ [x, y]) : b = x ∨ b = y := by simpa using h
section
variable {prog : Program} {w : World} {A : Around} {E : Value → Shared → Prop} {s : Shared}
theorem enumT_call {t : Addr} {its : Array Value} {Q : Value → Shared → Prop} (hT : s.heap.IsTuple t its)
    (h : ∀ g, IsEnum g (s.heap.objs.size + 1) s.heap.objs.size 0 .none → g.IsTupleIter s.heap.objs.size t 0 → g.objs.size = s.heap.objs.size + 2 →
      (∀ b o, s.heap.get? b = some o → g.get? b = some o) → Q (.ref (s.heap.objs.size + 1)) { s with heap := g }) :
    wpAny (model prog w) A (call (.type "enumerate") [.ref t]) Q E s := by
  obtain ⟨⟨c, dct, dt, sl⟩, ht, hc, n, hd⟩ := hT
  obtain rfl : c = .type "tuple" := hc
  obtain rfl : dt = .seq its n := hd
  refine callType_new F.called_enumerate (by decide) (F.typeCall_enumerate_1 _) (F.newCall_enumerate_1 _) (fun ob => F.args_object_init_2 ob _) F.entry_enumerate_new (enumT_new t its n dct sl) ⟨ht, ?_⟩
  have hz : (s.heap.push { cls := .type "tuple_iterator", data := .fields #[.ref t, .int 0 0] }).objs.size = s.heap.objs.size + 1 := Heap.size_push ..
  show _ ∧ _
  rw [hz]
  have he : IsEnum ((s.heap.push { cls := .type "tuple_iterator", data := .fields #[.ref t, .int 0 0] }).push
      { cls := .type "enumerate", data := .fields #[.none, .bool false, .ref s.heap.objs.size, rawInt 0, .none, .none] }) (s.heap.objs.size + 1) s.heap.objs.size 0 .none := by
    have q := Heap.get?_push_size (s.heap.push { cls := .type "tuple_iterator", data := .fields #[.ref t, .int 0 0] })
      (o := { cls := .type "enumerate", data := .fields #[.none, .bool false, .ref s.heap.objs.size, rawInt 0, .none, .none] }) rfl
    rw [hz] at q; exact q
  exact ⟨⟨_, he, rfl⟩, h _ he ⟨_, Heap.get?_push_of_some _ (Heap.get?_push_size _ rfl), rfl, rfl⟩ (by rw [Heap.size_push, hz]) fun b o q => Heap.get?_push_of_some _ (Heap.get?_push_of_some _ q)⟩
end
/-- enumerate(tuple): each item in a new pair -/
def ItE (K : PySem.W.Frag) (a : Addr) : It where
  go := fun i H => ∃ (xs : List V) (x : V), SqT K H a xs ∧ xs[i]? = some x
  yld := fun i H v H' => ∃ T x, v = .ref T ∧ H T = none ∧ H' = upd H T (.tup [.int (i : Nat), x]) ∧ ∀ xs, SqT K H a xs → xs[i]? = some x
  stop := fun i H => ∃ xs : List V, SqT K H a xs ∧ xs.length ≤ i
theorem turnE {P : Program} {w : World} {K : PySem.W.Frag} {elts : List Expr} {kk : Nat} {tpos : Pos} (a e it : Addr) (hai : a ≠ it) (hae : e ≠ a) :
    Turn P w K (.Tuple elts kk tpos) (ItE K a) [e, it] e (fun i h => (∃ old, IsEnum h e it ((i : Nat) : Int) old) ∧ h.IsTupleIter it a i ∧ e ≠ it) where
  mem := List.mem_cons_self
  obj := by
    rintro i h ⟨⟨old, he⟩, ⟨o, ho, hc, hd⟩, _⟩ b hb
    rcases mem2 hb with rfl | rfl
    · exact ⟨_, he, fun v q => nomatch q⟩
    · exact ⟨o, ho, fun v q => by rw [hd] at q; cases q⟩
  keep := by
    rintro i h h' ⟨⟨old, he⟩, hi, hne⟩ k
    exact ⟨⟨old, k e (by simp) _ he⟩, hi.at fun o q => k it (by simp) o q, hne⟩
  item := by
    intro X hP hw hK hc i pins s σ H E I hf st hg
    subst hP hw hK
    obtain ⟨⟨old, he⟩, hit, hne⟩ := st
    obtain ⟨xs, x, hq, hx⟩ := hg
    obtain ⟨its, rv, p, hz⟩ := I.tuple hq
    obtain ⟨u, hu, ru⟩ := rv.get hx
    have hu' : its.toArray[i]? = some u := by simpa using hu
    have hlt : i < its.toArray.size := by
      obtain ⟨h1, _⟩ := Array.getElem?_eq_some_iff.mp hu'
      exact h1
    have hT : s.heap.IsTuple a its.toArray := p
    have hel : e < s.heap.objs.size := Heap.lt_size he
    have hil : it < s.heap.objs.size := by obtain ⟨_, q, _⟩ := hit; exact Heap.lt_size q
    have D := Draws.tuple (prog := X.prog) (w := X.w) (A := X.A.in1) (I.ok.hd hc) it a hai its.toArray
    refine wpAny_pyNext_enum_itemD D he ⟨hit, hT⟩ hlt hne (fun hm => ?_) fun y g tk hy ho hst hTp hsz hk => ?_
    · rcases mem2 hm with z | z
      · exact hne z
      · exact hae z
    · obtain rfl : u = y := Option.some.inj (hu'.symm.trans hy)
      refine ⟨_, rfl, wpAny_letOwnedTupleGo_enum (s := { s with heap := g, toks := tk + 1 }) ho fun g2 he2 sb => ?_⟩
      have hT2 : g2.get? s.heap.objs.size = some { cls := .type "tuple", data := .seq #[.int i tk, u] } := (sb.2 _ (Nat.ne_of_gt hel)).trans hTp
      have new : ObjOk X.prog X.w (upd H s.heap.objs.size (.tup [.int (i : Nat), x])) g2 s.heap.objs.size (.tup [.int (i : Nat), x]) :=
        ⟨by show 2 ≤ sizeLine; decide, [.int i tk, u], .cons ⟨_, rfl⟩ (.cons ru .nil), ⟨_, hT2, rfl, _, rfl⟩⟩
      have I1 : Inv X pins σ (upd H s.heap.objs.size (.tup [.int (i : Nat), x])) { s with heap := g2, toks := tk + 1 } := by
        refine I.turnedNew (ch := [e, it]) (fun b ob hb q => ?_) hf (Nat.le_refl _) new
        have n1 : b ≠ e := fun z => hb (by simp [z])
        have n2 : b ≠ it := fun z => hb (by simp [z])
        exact (sb.2 b n1).trans (hk b ob n1 n2 q)
      refine ⟨.ref s.heap.objs.size, _, I1, rfl, ⟨_, x, rfl, I.hok.fresh (Nat.le_refl _), rfl, fun ys hy => by rw [I.tuple_inj hy hq]; exact hx⟩, ⟨⟨u, ?_⟩, hst.1.at fun o q => (sb.2 it (Ne.symm hne)).trans q, hne⟩, fun b hb => ?_⟩
      · have e1 : ((i + 1 : Nat) : Int) = (i : Int) + 1 := by omega
        rw [e1]; exact he2
      · have hlb : b < s.heap.objs.size := by rcases mem2 hb with rfl | rfl <;> assumption
        exact (upd_ne (Nat.ne_of_lt hlb)).trans (hf b hb).1
  done := by
    intro X hP hw hK hc i pins s σ H E I hf st hg
    subst hP hw hK
    obtain ⟨⟨old, he⟩, hit, hne⟩ := st
    obtain ⟨xs, hq, hx⟩ := hg
    obtain ⟨its, rv, p, hz⟩ := I.tuple hq
    obtain ⟨f0, f1, f2, f3, f4, f5⟩ := hf it (by simp)
    have hT : s.heap.IsTuple a its.toArray := p
    have hl := rv.length
    have hT2 : its.toArray[i]? = none := by simp; omega
    refine (show wpAny (model X.prog X.w) X.A (pyNext (.ref e)) _ E s from ?_)
    have hTy : s.TypeIs (.ref e) "enumerate" := ⟨_, he, rfl⟩
    unfold pyNext
    refine wpAny_bind (wpAny_attempt (wpAny_callSpecial?_slot (name := Str.ofString "__next__") hTy F.slot_enumerate_next
      (wpAny_call_entry F.slot_enumerate_next hTy F.entry_enumerate_next ?_ (F.args_enumerate_next_1 _))))
    show wpAny _ _ (field (.ref e) 2 >>= _) _ _ _
    refine wpAny_bind (wpAny_field he rfl (x := .ref it) rfl ?_)
    refine wpAny_bind (wpAny_nextOf_tuple_end (I.ok.hd hc) hit hT hT2 fun g x eb hx' => ?_)
    obtain ⟨o, ho, hcl⟩ := hx'
    refine wpAny_bind (wpAny_isInstance (T := "StopIteration") (b := true) ⟨o, ho, hcl⟩ isSubtype_stop ?_)
    exact wpAny_pure ⟨rfl, I.turned (t' := s.toks) (fun b o hb q => eb b o hb q) f0 f1 f3 f4 f5⟩
  self := by
    rintro A i s Q E ⟨⟨_, he⟩, _⟩ h
    exact wpAny_pyIter_enum he h
theorem walkE {K : PySem.W.Frag} {a : Addr} {xs : List V} : Walk (ItE K a) xs.length (fun H => SqT K H a xs) (YPair (fun i => some (.int (i : Nat))) (fun i => xs[i]?)) where
  goes := fun i _ hi q => ⟨xs, xs[i], q, by simp [hi]⟩
  stops := fun _ q => ⟨xs, q, Nat.le_refl _⟩
  yields := by
    rintro i H v H' _ q ⟨T, x, h1, h2, h3, h4⟩
    exact ⟨T, .int (i : Nat), x, h1, h2, h3, rfl, h4 xs q⟩
/-- a list or a tuple -/
def Sq (K : PySem.W.Frag) (H : Hp) (a : Addr) (xs : List V) : Prop := SqL K H a xs ∨ SqT K H a xs
/-- what was read at a is still to be read there -/
def SqK (K : PySem.W.Frag) (H H' : Hp) (a : Addr) (xs : List V) : Prop := (SqL K H a xs → SqL K H' a xs) ∧ (SqT K H a xs → SqT K H' a xs)
/-- enumerate(x), x a list or a tuple -/
def iEn (K : PySem.W.Frag) (ta : TA) : TI := fun σ H R => ta σ H fun vs H1 => ∃ a xs, vs = [.ref a] ∧ Sq K H1 a xs ∧
  ∀ J, Walk J xs.length (fun H => SqK K H1 H a xs) (YPair (fun i => some (.int (i : Nat))) (fun i => xs[i]?)) → R J H1
/-- x, a list or a tuple -/
def iSq (K : PySem.W.Frag) (tl : TE) : TI := fun σ H R => tl σ H fun x H1 => ∃ a xs, x = .ref a ∧ Sq K H1 a xs ∧
  ∀ J, Walk J xs.length (fun H => SqK K H1 H a xs) (YAt xs) → R J H1
section
variable {X : Cx}
theorem pi_en {e : Expr} {ta : TA} {p pos tpos : Pos} {elts : List Expr} {kk : Nat} (hg : Gl X "enumerate") (hm : X.mg "enumerate" = none) (ha : PA X [e] ta) (hs : starEach [e] X.env = [(false, eval e X.env)] := by rfl) :
    PI X (.Tuple elts kk tpos) (.Call (.Name "enumerate" p) [e] [] pos) (iEn X.K ta) := by
  refine ⟨fun pins s σ H R I h => Call_ (ld_blt I hg hm boot_enumerate (PyProof.Rows.callWith_type1 (thn (ha.run pos pins s σ H _ I h) fun us s1 hh => ?_) hs rfl))⟩
  obtain ⟨vs, H1, I1, r1, a, xs, rfl, hq, q⟩ := hh
  obtain ⟨u, rfl, ru⟩ := vals1 r1
  obtain rfl : u = Value.ref a := ru
  have fp : ∀ b ∈ [s1.heap.objs.size + 1, s1.heap.objs.size], FpOk X pins H1 b := fun b hb => by
    have hle : s1.heap.objs.size ≤ b := by rcases mem2 hb with rfl | rfl <;> omega
    exact I1.fpOk hle (I1.hok.fresh hle)
  rcases hq with hq | hq
  · obtain ⟨its, rv, p', hz⟩ := I1.list hq
    refine call_enumerate_list p'.isList fun g he hit hsz hk => wpAny_pyIter_enum he ?_
    exact ⟨s1.heap.objs.size + 1, [s1.heap.objs.size + 1, s1.heap.objs.size], _, _, H1, rfl, I1.kept (t' := s1.toks) hk, turn_enum a _ _, ⟨⟨.none, he⟩, hit, Nat.succ_ne_self _⟩, fp, q _ (walk_enum.mono (fun _ z => z.1 hq) fun _ _ _ _ _ _ y => y)⟩
  · obtain ⟨its, rv, p', hz⟩ := I1.tuple hq
    have hT : s1.heap.IsTuple a its.toArray := p'
    have hlt : a < s1.heap.objs.size := by obtain ⟨_, z, _⟩ := hT; exact Heap.lt_size z
    refine enumT_call hT fun g he hit hsz hk => wpAny_pyIter_enum he ?_
    exact ⟨s1.heap.objs.size + 1, [s1.heap.objs.size + 1, s1.heap.objs.size], _, _, H1, rfl, I1.kept (t' := s1.toks) hk, turnE a _ _ (Nat.ne_of_lt hlt) (Nat.ne_of_gt (Nat.lt_succ_of_lt hlt)), ⟨⟨.none, he⟩, hit, Nat.succ_ne_self _⟩, fp, q _ (walkE.mono (fun _ z => z.2 hq) fun _ _ _ _ _ _ y => y)⟩
theorem pi_sq {tg l : Expr} {tl : TE} (hl : PE X l tl) : PI X tg l (iSq X.K tl) := by
  refine ⟨fun pins s σ H R I h => thn (hl.run pins s σ H _ I h) fun v s1 hh => ?_⟩
  obtain ⟨x, H1, I1, r1, a, xs, rfl, hq, q⟩ := hh
  obtain rfl : v = Value.ref a := r1
  have fp : ∀ b ∈ [s1.heap.objs.size], FpOk X pins H1 b := fun b hb => by
    obtain rfl : b = s1.heap.objs.size := by simpa using hb
    exact I1.fpOk (Nat.le_refl _) (I1.hok.fresh (Nat.le_refl _))
  rcases hq with hq | hq
  · obtain ⟨its, rv, p, hz⟩ := I1.list hq
    exact wpAny_pyIter_list p.isList ⟨s1.heap.objs.size, [s1.heap.objs.size], _, _, H1, rfl, I1.kept (t' := s1.toks) fun _ _ z => Heap.get?_push_of_some _ z, turn_list a _, ⟨_, Heap.get?_push_size _ rfl, rfl, rfl⟩, fp, q _ (walk_list.mono (fun _ z => z.1 hq) fun _ _ _ _ _ _ y => y)⟩
  · obtain ⟨its, rv, p, hz⟩ := I1.tuple hq
    have hT : s1.heap.IsTuple a its.toArray := p
    exact wpAny_pyIter_tuple hT ⟨s1.heap.objs.size, [s1.heap.objs.size], _, _, H1, rfl, I1.kept (t' := s1.toks) fun _ _ z => Heap.get?_push_of_some _ z, turn_tuple a _, ⟨_, Heap.get?_push_size _ rfl, rfl, rfl⟩, fp, q _ (walk_tup.mono (fun _ z => z.2 hq) fun _ _ _ _ _ _ y => y)⟩
end
end Spk

namespace Spk
open PySem PySem.Spec PyProof.Rows L2
section
variable {P : Program} {w : World} {K : PySem.W.Frag} {mg mb : Str → Option Value} {k : Nat} {fa a : Addr} {fd : FuncData} {x : Str} {sp : Sp} {t : Shared} {zs : List Value} {ns : List Int}
def Fin1 (t : Shared) (r : Result) (u : Shared) : Prop := r = .ok (.ret (.bool true)) ∧ OldK t.heap u.heap ∧ u.os = t.os ∧ AllBare u.gens
/-- the law's call, from a heap that tracks nothing but the script (or nothing) -/
theorem coreG {J : Hp} (KX : K.In t.heap) (hns : t.heap.Ns mainGlobals mg) (hb : t.heap.Ns builtinsNs mb) (hbb : ∀ y : Str, y ≠ "__name__" → mb y = bootBuiltins y) (hlim : t.heap.NoLimit) (hg : t.gens = #[])
    (ha : t.heap.get? a = some { cls := .type "list", data := .seq zs.toArray }) (rm : Room k callerA)
    (F : ∀ bh : Heap, K.In bh → bh.Ns mainGlobals mg → FnG P w K mg bh k fa fd [x] sp) (bi : ∀ (s : Shared) (u : Value), BindsTo s fd ⟨[u], []⟩ [(x, u)])
    (hO : Only J) (hok : HOk P w J t.heap) (hA : ∀ b, J b ≠ none → b = a) (hK : J a ≠ none → K.lookup a = none)
    (hsp : sp [.ref a] J (fun v _ => v = .bl true) E0) : codeAny (model P w) callerA (.call (.ref fa) ⟨[.ref a], []⟩) (Fin1 t) t := by
  have gone : ∀ b o es ep, t.heap.get? b = some o → o.data = .dict es ep → J b = none := by
    intro b o es ep e d
    cases q : J b with
    | none => rfl
    | some u =>
      obtain rfl : b = a := hA b (by rw [q]; exact fun z => nomatch z)
      obtain rfl : _ = o := Option.some.inj (ha.symm.trans e)
      exact nomatch (show Data.seq zs.toArray _ = Data.dict es ep from d)
  have ns' : ∀ b m, t.heap.Ns b m → (hidT t.heap J).Ns b m := by
    rintro b m ⟨o, es, ep, e, d, r⟩
    exact ⟨o, es, ep, hidT_get e (gone b o es ep e d), d, r⟩
  have kb : K.In (hidT t.heap J) := by
    intro b o e
    refine hidT_get (KX b o e) ?_
    cases q : J b with
    | none => rfl
    | some u =>
      obtain rfl : b = a := hA b (by rw [q]; exact fun z => nomatch z)
      exact absurd e (by rw [hK (by rw [q]; exact fun z => nomatch z)]; exact fun z => nomatch z)
  have md : Mod K mg (hidT t.heap J) := ⟨kb, ns' _ _ hns, ⟨mb, ns' _ _ hb, hbb⟩, hlim.imp fun mc h => ⟨ns' _ _ h.1, h.2⟩⟩
  have e0 : Env0 P w K mg (hidT t.heap J) callerA [] t J :=
    { frames := rfl, mod := md, bs := fun _ _ e => of_hidT e, bsz := Nat.le_of_eq (hidT_size _ _), funs := trivial, frf := (fun _ h => nomatch h), hok := hok, bare := .of_eq hg }
  refine codeAny_mono ((F _ kb (ns' _ _ hns)).runG callerA [] t J ⟨[.ref a], []⟩ [.ref a] [.ref a] _ E0 rfl rm e0 (bi t (.ref a)) (.cons rfl .nil) hsp) fun r u h => ?_
  match r, h with
  | .ok (.ret y), h =>
    obtain ⟨v, J', os, bare, un, hok', ry, q⟩ := h
    obtain rfl : v = .bl true := q
    obtain rfl : y = Value.bool true := ry
    refine ⟨rfl, OldK.of_keep fun b o e => ?_, os, bare⟩
    rcases hO b with z | ⟨ob, xs, z⟩
    · exact un.keep b o e z (fun h => nomatch h) (fun h => nomatch h)
    · have e1 := (hok b _ z).1
      have e2 := (hok' b _ (un.frzs b ob _ z)).1
      exact e2.trans (e1.symm.trans e)
theorem lawG (KX : K.In t.heap) (hns : t.heap.Ns mainGlobals mg) (hb : t.heap.Ns builtinsNs mb) (hbb : ∀ y : Str, y ≠ "__name__" → mb y = bootBuiltins y) (hlim : t.heap.NoLimit) (hg : t.gens = #[])
    (ha : t.heap.get? a = some { cls := .type "list", data := .seq zs.toArray }) (hi : IntsAre zs ns) (hl : ns.length ≤ sizeLine) (rm : Room k callerA)
    (F : ∀ bh : Heap, K.In bh → bh.Ns mainGlobals mg → FnG P w K mg bh k fa fd [x] sp) (bi : ∀ (s : Shared) (u : Value), BindsTo s fd ⟨[u], []⟩ [(x, u)])
    (hsp : ∀ J : Hp, Only J → SqL K J a (ns.map V.int) → sp [.ref a] J (fun v _ => v = .bl true) E0) :
    codeAny (model P w) callerA (.call (.ref fa) ⟨[.ref a], []⟩) (Fin1 t) t := by
  have rv : Vals (ns.map V.int) zs := vals_ints hi
  have ll : zs.length ≤ sizeLine := by rw [← rv.length, List.length_map]; exact hl
  cases hk : K.lookup a with
  | some o =>
    obtain rfl : _ = o := Option.some.inj (ha.symm.trans (KX a o hk))
    have sq : SqL K (fun _ => none) a (ns.map V.int) := Or.inr ⟨_, zs.toArray, _, hk, rfl, rfl, rfl, by simpa using ll, by simpa using rv⟩
    exact coreG KX hns hb hbb hlim hg ha rm F bi (fun _ => Or.inl rfl) (fun _ _ z => nomatch z) (fun _ z => absurd rfl z) (fun z => absurd rfl z) (hsp _ (fun _ => Or.inl rfl) sq)
  | none =>
    let J : Hp := fun b => if b = a then some (.frz { cls := .type "list", data := .seq zs.toArray } (.lst (ns.map V.int))) else none
    have ja : J a = some (.frz { cls := .type "list", data := .seq zs.toArray } (.lst (ns.map V.int))) := if_pos rfl
    have jn : ∀ b, b ≠ a → J b = none := fun b h => if_neg h
    have ho : Only J := fun b => (Classical.em (b = a)).elim (fun e => Or.inr ⟨_, _, e ▸ ja⟩) fun e => Or.inl (jn b e)
    refine coreG KX hns hb hbb hlim hg ha rm F bi ho (fun b u z => ?_) (fun b z => Classical.byContradiction fun e => z (jn b e)) (fun _ => hk) (hsp J ho (Or.inl (Or.inr ⟨_, ja⟩)))
    by_cases e : b = a
    · subst e
      obtain rfl := Option.some.inj (ja.symm.trans z)
      exact ⟨ha, by rw [List.length_map]; exact hl, zs, _, rv, ha⟩
    · exact absurd ((jn b e).symm.trans z) fun z => nomatch z
end
theorem walkG {l : PySem.W.OpenLaw} {n k : Nat} {q : Program} {lo : List Str} {XP : (Str → Option Value) → Heap → Prop} {YP : World → Heap → Prop} {d : DefRec} {K : Params → PySem.W.Frag} {sp : World → Sp} {x : Str}
    (hn : l.most = some n) (hn2 : n ≤ sizeLine) (hdf : d.params.defaults = []) (rm : Room k callerA) (hY : ∀ (w : World) (h : Heap), YP w h → (K w.params).In h)
    (F : ∀ (w : World) (mg : Str → Option Value) (fa : Addr) (h : Heap), (K w.params).In h → h.Ns mainGlobals mg → mg d.name = some (.ref fa) →
      ∃ fd : FuncData, (∀ (s : Shared) (u : Value), BindsTo s fd ⟨[u], []⟩ [(x, u)]) ∧
        ∀ bh : Heap, (K w.params).In bh → bh.Ns mainGlobals mg → FnG l.prog w (K w.params) mg bh k fa fd [x] (sp w))
    (hsp : ∀ (w : World) (J : Hp) (a : Addr) (ns : List Int), ns.length ≤ n → Only J → SqL (K w.params) J a (ns.map V.int) → sp w [.ref a] J (fun v _ => v = .bl true) E0) :
    PySem.W.WalkO q lo XP YP l.row.toRowW d [] (fun f vs => PySem.call f vs) := by
  refine Att.attach_call hn hdf fun w s₀ t mg mb fa o pm cd doc a zs ns G Y ho hd hcd hmg hobj hints hlen hg => ?_
  obtain ⟨fd, bi, hF⟩ := F w mg fa _ (hY w _ Y) G.T.g hmg
  exact lawG (hY w _ Y) G.T.g G.T.b G.T.builtins G.T.nolimit hg hobj hints (Nat.le_trans hlen hn2) rm hF bi fun J hO hS => hsp w J a ns hlen hO hS
end Spk

namespace Spk
open PySem PySem.Spec PyProof.Rows L2
/-! ### a def that may be called -/
structure Rdy (P : Program) (w : World) (K : PySem.W.Frag) (mg : Str → Option Value) (bh : Heap) (x : Str) (k : Nat) (ps : List Str) (sp : Sp) (f : Addr) (fd : FuncData) : Prop where
  ok : FnOk P w K mg bh CX0 k f fd ps sp
  gl : mg x = some (.ref f)
  kp : PySem.W.keepIn K (.ref f) = true
  bd : Binds K fd ps []
/-- a def with defaults -/
structure RdyD (P : Program) (w : World) (K : PySem.W.Frag) (mg : Str → Option Value) (bh : Heap) (x : Str) (k : Nat) (ps : List Str) (dvs : List V) (sp : Sp) (f : Addr) (fd : FuncData) : Prop where
  ok : FnOk P w K mg bh CX0 k f fd ps sp
  gl : mg x = some (.ref f)
  kp : PySem.W.keepIn K (.ref f) = true
  bd : Binds K fd ps []
  bd1 : ∃ ds, Vals dvs ds ∧ Binds K fd ps ds
section
variable {X : Cx} {x : Str} {k j : Nat} {ps : List Str} {dvs : List V} {sp : Sp} {f : Addr} {fd : FuncData} {p pos : Pos} {e : Expr} {es : List Expr} {t : TA}
theorem pe_rdy (R : Rdy X.prog X.w X.K X.mg X.base x k ps sp f fd) (rm : Room j X.A) (hj : k ≤ j) (hg : Gl X x) (ha : PA X (e :: es) t) (hdb : (x == ("__debug__" : Str)) = false := by decide)
    (he : starEach (e :: es) X.env = (false, eval e X.env) :: starEach es X.env := by rfl) (hpl : (backTo pos (starEach es X.env)).any (·.1) = false := by rfl) :
    PE X (.Call (.Name x p) (e :: es) [] pos) (tCall sp [] E0 t) := pe_call R.ok (rm.mono hj) hg R.gl R.kp R.bd .nil pass0 ha hdb he hpl
theorem pe_rdyD (R : RdyD X.prog X.w X.K X.mg X.base x k ps dvs sp f fd) (rm : Room j X.A) (hj : k ≤ j) (hg : Gl X x) (ha : PA X (e :: es) t) (hdb : (x == ("__debug__" : Str)) = false := by decide)
    (he : starEach (e :: es) X.env = (false, eval e X.env) :: starEach es X.env := by rfl) (hpl : (backTo pos (starEach es X.env)).any (·.1) = false := by rfl) :
    PE X (.Call (.Name x p) (e :: es) [] pos) (tCall sp [] E0 t) := pe_call R.ok (rm.mono hj) hg R.gl R.kp R.bd .nil pass0 ha hdb he hpl
/-- the last argument left out -/
theorem pe_rdyD1 (R : RdyD X.prog X.w X.K X.mg X.base x k ps dvs sp f fd) (rm : Room j X.A) (hj : k ≤ j) (hg : Gl X x) (ha : PA X (e :: es) t) (hdb : (x == ("__debug__" : Str)) = false := by decide)
    (he : starEach (e :: es) X.env = (false, eval e X.env) :: starEach es X.env := by rfl) (hpl : (backTo pos (starEach es X.env)).any (·.1) = false := by rfl) :
    PE X (.Call (.Name x p) (e :: es) [] pos) (tCall sp dvs E0 t) := by
  obtain ⟨ds, hv, bd⟩ := R.bd1
  exact pe_call R.ok (rm.mono hj) hg R.gl R.kp bd hv pass0 ha hdb he hpl
/-! ### a word between a statement and what follows -/
def tMid (t u : TS) : TS := fun D σ H => ∃ M : L2.St → Hp → Prop, t { D with nx := M } σ H ∧ ∀ τ J, M τ J → u D τ J
theorem pss_mid {st : Stmt} {sts : List Stmt} {t u : TS} (a : PS X st t) (b : PSs X sts u) : PSs X (st :: sts) (tMid t u) := by
  refine ⟨fun pins s σ H D I h => h.elim fun M h => ?_⟩
  refine wpAny_execs_cons (thn (a.run pins s σ H { D with nx := M } I h.1) fun fl s1 q => ?_)
  match fl, q with
  | .next, q =>
    obtain ⟨τ, J, I', q⟩ := q
    exact b.run pins s1 τ J D I' (h.2 τ J q)
  | .ret _, q => exact q
  | .brk, q => exact q
  | .cont, q => exact q
/-- an item of a tuple, the written part named -/
theorem ix_tupK {K : PySem.W.Frag} (h : X.K = K := by rfl) : IxR X (rIxT K) := h ▸ ix_tup
theorem ix_listK {K : PySem.W.Frag} (h : X.K = K := by rfl) : IxR X (rIxL K) := h ▸ ix_list
/-! ### constants of the module, of a class -/
theorem pe_globI {i : Int} (h : ∃ t, X.mg x = some (.int i t)) (hg : Gl X x) (hd : (x == ("__debug__" : Str)) = false := by decide) : PE X (.Name x pos) (tC (.int i)) := by
  obtain ⟨t, h⟩ := h
  exact pe_glob hg h ⟨t, rfl⟩ hd
/-- the class Ends, as the top has left it -/
structure EndsT (K : PySem.W.Frag) (mg : Str → Option Value) : Prop where
  ex : ∃ (C : Addr) (mc u1 u2 : Value), mg "Ends" = some (.ref C) ∧ ClX.CRead K C mc ∧ ClX.CVal K C mc "HALF" (.str "half") u1 ∧ ClX.CVal K C mc "SHUT" (.str "shut") u2
theorem pe_half (h : EndsT X.K X.mg) (hg : Gl X "Ends") (hb : attributeBase (.Name "Ends" p) "HALF" X.env (eval (.Name "Ends" p) X.env) = eval (.Name "Ends" p) X.env := by rfl) :
    PE X (.Attribute (.Name "Ends" p) "HALF" pos) (tC (.str "half")) := by
  obtain ⟨C, mc, u1, u2, g, r, a, b⟩ := h.ex
  have q := ClX.pe_cval (X := X) (f := "HALF") (pos := pos) (pe_glob (v := .ref C) (pos := p) hg g rfl) hb
  exact ⟨fun pins s σ H R I z => q.run pins s σ H R I ⟨C, mc, _, u1, rfl, r, a, z⟩⟩
theorem pe_shut (h : EndsT X.K X.mg) (hg : Gl X "Ends") (hb : attributeBase (.Name "Ends" p) "SHUT" X.env (eval (.Name "Ends" p) X.env) = eval (.Name "Ends" p) X.env := by rfl) :
    PE X (.Attribute (.Name "Ends" p) "SHUT" pos) (tC (.str "shut")) := by
  obtain ⟨C, mc, u1, u2, g, r, a, b⟩ := h.ex
  have q := ClX.pe_cval (X := X) (f := "SHUT") (pos := pos) (pe_glob (v := .ref C) (pos := p) hg g rfl) hb
  exact ⟨fun pins s σ H R I z => q.run pins s σ H R I ⟨C, mc, _, u2, rfl, r, b, z⟩⟩
end

/-! ### defs with defaults, calls by keywords alone -/
section
variable {P : Program} {w : World} {K : PySem.W.Frag} {mg : Str → Option Value} {bh : Heap} {x qu : Str} {st : Stmt} {dvs : List V} {f : Addr} {fd : FuncData} {N ps : List Str} {k : Nat} {sp : Sp}
theorem okD (F : FunD K x qu (defArgs st) (defBody st) (defScope st) dvs [] f fd) (S : FnScope N ps (defScope st)) (ln : ∀ vs H Q E, sp vs H Q E → vs.length = ps.length)
    (hb : ∀ (cv : Value) (B : Around) (ou : List Env) (t : Shared) (J : Hp) (ws : List V) (R : VK) (U : XK), Room k (B.deeper (envOfC qu (defScope st) t.heap.objs.size f cv)) → sp ws J R U →
      ∃ tr, PSs (cxOf CX0 P w K mg bh N qu (defScope st) f cv B ou t J U).nox (defBody st) tr ∧ tr { nx := fun _ J' => R .non J', rt := R } (L2.start N ws) J) :
    FnOk P w K mg bh CX0 (k + 1) f fd ps sp := F.ok S ln fun cv B ou t J ws R U rm h => by
  obtain ⟨tr, q, z⟩ := hb cv B ou t J ws R U rm h
  exact ⟨tr, q.nox, z⟩
theorem bindsFull (F : FunD K x qu (defArgs st) (defBody st) (defScope st) dvs [] f fd) (hd : dvs ≠ [])
    (h : ∀ (T : Addr) (kV dc pm : Value) (an : Option Addr) (cv ct : Value) (us its : List Value), us.length = ps.length → its.length = dvs.length →
      ∃ kk, bindArgs (PySem.W.fnOf x qu (defArgs st) (defBody st) (defScope st) (.ref T) kV dc pm an cv ct) ⟨us, []⟩ = seqItems? (.ref T) >>= kk ∧ kk (some its.toArray) = pure (ps.zip us)) : Binds K fd ps [] := by
  obtain ⟨ds, hv, bd⟩ := FunD.binds1 (ps := ps) F ps.length dvs.length hd (by omega) fun T kV dc pm an cv ct us its h1 h2 => by
    obtain ⟨kk, e1, e2⟩ := h T kV dc pm an cv ct us its h1 h2
    have : its.drop dvs.length = [] := List.drop_eq_nil_of_le (by omega)
    rw [this, List.append_nil]
    exact ⟨kk, e1, e2⟩
  have e : dvs.drop dvs.length = [] := List.drop_eq_nil_of_le (Nat.le_refl _)
  rw [e] at hv
  cases hv
  exact bd
theorem kwAll (F : FunD K x qu (defArgs st) (defBody st) (defScope st) dvs [] f fd) (ks : List Str) (g : {α : Type} → List α → List α) (hd : dvs ≠ []) (hrel : ∀ {zs : List V} {ws : List Value}, Vals zs ws → Vals (g zs) (g ws))
    (h : ∀ (T : Addr) (kV dc pm : Value) (an : Option Addr) (cv ct : Value) (its ws : List Value), its.length = dvs.length → ws.length = ks.length →
      ∃ kk, bindArgs (PySem.W.fnOf x qu (defArgs st) (defBody st) (defScope st) (.ref T) kV dc pm an cv ct) ⟨[], ks.zip ws⟩ = seqItems? (.ref T) >>= kk ∧ kk (some its.toArray) = pure (ps.zip (g ws))) :
    KBn K fd ps 0 ks (fun _ ws => g ws) (fun _ zs => g zs) := by
  obtain ⟨oc, od, dV, kV, dc, pm, an, cv, ct, sl, rfl, lk, hcd, hD, hK⟩ := F.ex
  rcases hD with ⟨e, _⟩ | ⟨_, T, o, its, m, rfl, lT, oT, rT⟩
  · exact absurd e hd
  · refine ⟨fun s us ws X l1 l2 => ?_, fun _ r2 => hrel r2⟩
    obtain rfl : us = [] := List.length_eq_zero_iff.mp l1
    obtain ⟨kk, e1, e2⟩ := h T kV dc pm an cv ct its ws rT.length.symm l2
    refine BindsTo.of_looks fun M => ?_
    rw [e1]
    exact looks_items X lT oT (.of_pure e2)
end
section
variable {X : Cx} {k j : Nat} {f : Addr} {fd : FuncData} {ps ks : List Str} {sp : Sp} {x : Str} {p pos : Pos} {kws : List Keyword} {tk : TA} {g : List Value → List Value → List Value} {gV : List V → List V → List V}
/-- f(k = v, ..) without a positional argument -/
theorem pe_kw0 (F : FnOk X.prog X.w X.K X.mg X.base CX0 k f fd ps sp) (rm : Room j X.A) (hj : k ≤ j) (hg : Gl X x) (hm : X.mg x = some (.ref f)) (hk : PySem.W.keepIn X.K (.ref f) = true) (hb : KBn X.K fd ps 0 ks g gV) (hkw : PK X kws tk)
    (hall : (backToKw pos (keywordEach kws X.env)).all (·.1.isSome) = true := by rfl) (hks : (backToKw pos (keywordEach kws X.env)).filterMap (·.1) = ks := by rfl) (hdb : (x == ("__debug__" : Str)) = false := by decide)
    (hpl : ((backTo pos (starEach [] X.env)).any (·.1) || (backToKw pos (keywordEach kws X.env)).any (·.1.isNone)) = false := by rfl) :
    PE X (.Call (.Name x p) [] kws pos) (tCallN 0 ks.length sp gV E0 tNil tk) := by
  refine ⟨fun pins s σ H Q I h => wpAny_Call_Name_kw (ld_glob I hg hm ?_ hdb)⟩
  refine PySem.W.callWith_KW0 (h₀ := X.base) I.ok.mod.kin hk hall (thn (hkw.run pos pins s σ H _ I h) fun ws s2 hh => ?_) hpl
  obtain ⟨zs, H2, I2, rz, l1, l2, q2⟩ := hh
  refine ⟨I2.kIn, ?_⟩
  rw [hks]
  exact run_fnN (us := []) (vs := []) F (rm.mono hj) hb pass0 I2 .nil rz rfl l2 q2
end
/-! ### heaps -/
theorem SqL.hp {K : PySem.W.Frag} {H : Hp} {a : Addr} {xs : List V} (h : H a = some (.lst xs)) : SqL K H a xs := .inl (.inl h)
theorem SqT.hp {K : PySem.W.Frag} {H : Hp} {a : Addr} {xs : List V} (h : H a = some (.tup xs)) : SqT K H a xs := .inl (.inl h)
/-- all that was tracked, but for what stands at p, is as it was -/
def Kp (p : Addr) (H H' : Hp) : Prop := ∀ b o, b ≠ p → H b = some o → H' b = some o
theorem Kp.refl {p : Addr} {H : Hp} : Kp p H H := fun _ _ _ h => h
theorem Kp.trans {p : Addr} {H H1 H2 : Hp} (a : Kp p H H1) (b : Kp p H1 H2) : Kp p H H2 := fun c o n h => b c o n (a c o n h)
theorem Kp.same {p : Addr} {H H' : Hp} (a : Same H H') : Kp p H H' := fun c o _ h => a c o h
theorem Kp.new {p q : Addr} {H : Hp} {o : HO} (h : H q = none) : Kp p H (upd H q o) := fun b u _ e => by rw [upd_ne (ne_of_none e h)]; exact e
theorem Kp.at_ {p : Addr} {H : Hp} {o : HO} : Kp p H (upd H p o) := fun b u n e => by rw [upd_ne n]; exact e
theorem Same.new {q : Addr} {H : Hp} {o : HO} (h : H q = none) : Same H (upd H q o) := fun b u e => by rw [upd_ne (ne_of_none e h)]; exact e
theorem Same.free' {H H' : Hp} (s : Same H H') {l : Addr} (h : H' l = none) : H l = none := Same.free s h
theorem sameT {K : PySem.W.Frag} {H H' : Hp} {a : Addr} {xs : List V} (e : Same H H') (h : SqT K H a xs) : SqT K H' a xs := by
  rcases h with (h | ⟨o, h⟩) | h
  · exact .inl (.inl (e _ _ h))
  · exact .inl (.inr ⟨o, e _ _ h⟩)
  · exact .inr h
theorem sameK {K : PySem.W.Frag} {H H' : Hp} {a : Addr} {xs : List V} (e : Same H H') : SqK K H H' a xs := ⟨e.seq, sameT e⟩
theorem sameQ {K : PySem.W.Frag} {H H' : Hp} {a : Addr} {xs : List V} (e : Same H H') (h : Sq K H a xs) : Sq K H' a xs := h.imp e.seq (sameT e)
theorem kpL {K : PySem.W.Frag} {p : Addr} {H H' : Hp} {a : Addr} {xs : List V} (e : Kp p H H') (n : a ≠ p) (h : SqL K H a xs) : SqL K H' a xs := by
  rcases h with (h | ⟨o, h⟩) | h
  · exact .inl (.inl (e _ _ n h))
  · exact .inl (.inr ⟨o, e _ _ n h⟩)
  · exact .inr h
mutual
theorem sameD {K : PySem.W.Frag} {H H' : Hp} (e : Same H H') : ∀ (d : PyData) {v : V}, Dp K H v d → Dp K H' v d
  | .none, _, h => by cases h; exact .non
  | .bool b, _, h => by cases h; exact .bl b
  | .int i, _, h => by cases h; exact .int i
  | .str x, _, h => by cases h; exact .str x
  | .list ds, _, h => by
    cases h with
    | lst q r => exact .lst (e.seq q) (sameDs e ds r)
  | .tuple ds, _, h => by
    cases h with
    | tup q r => exact .tup (sameT e q) (sameDs e ds r)
  | .dict _, _, h => by cases h
theorem sameDs {K : PySem.W.Frag} {H H' : Hp} (e : Same H H') : ∀ (ds : List PyData) {vs : List V}, DpAll K H vs ds → DpAll K H' vs ds
  | [], _, h => by cases h; exact .nil
  | d :: ds, _, h => by
    cases h with
    | cons a b => exact .cons (sameD e d a) (sameDs e ds b)
end
end Spk

namespace Spk
open PySem PySem.Spec PyProof.Rows L2
/-! ### try: .. except X as n: .. except Y as m: .. -/
/-- a clause: the class, the slot of its name, the suite's reading -/
structure Cl where
  c : Value
  i : Nat
  ts : Addr → Value → Option Addr → TS
def wCl (K : PySem.W.Frag) (W0 : WX) (D : L2.Ends) : List Cl → WX
  | [] => W0
  | k :: r => fun cls d σ H => ∃ b, PySem.W.exmOne K cls k.c = some b ∧
      (b = true → ∀ a, H a = none → k.ts a cls d { nx := fun τ J => D.nx (τ.set k.i none) J, rt := D.rt, bk := fun τ J => D.bk (τ.set k.i none) J, ct := fun τ J => D.ct (τ.set k.i none) J } (σ.set k.i (some (.ref a))) H) ∧
      (b = false → wCl K W0 D r cls d σ H)
inductive ClOk (X : Cx) : List ExceptHandler → List Cl → Prop
  | nil : ClOk X [] []
  | cons {x n : Str} {k : Cl} {s0 : Stmt} {su : List Stmt} {np hp : Pos} {hds : List ExceptHandler} {l : List Cl} (hi : X.N[k.i]? = some n) (hln : X.env.kindOf n = some .local) (hc : Names X x k.c)
      (hsu : ∀ (a : Addr) (oe : Obj) (cls : Value) (d : Option Addr) (pn : List (Addr × Obj)), Zc cls d oe → (∃ vs, oe.data = .fields vs) → PSs (X.suite a ((a, oe) :: pn)) (s0 :: su) (k.ts a cls d))
      (r : ClOk X hds l) : ClOk X (.ExceptHandler (some (.Name x np)) (some n) (s0 :: su) hp :: hds) (k :: l)
section
variable {X : Cx} {bd : List Stmt} {h0 : ExceptHandler} {hds : List ExceptHandler} {l : List Cl} {pos : Pos} {tb : WX → TS} {W0 : WX}
theorem ps_tryN (hst : X.stack = X.env :: X.outer) (hfl : X.env.frame = some X.env.locals) (nd : X.N.Nodup) (tk : Takes X W0)
    (hbd : ∀ (W : WX) (pn : List (Addr × Obj)) (xe : Value → Shared → Prop), Takes (X.tr pn xe) W → PassesOwn (model X.prog X.w) X.A X.env xe → PSs (X.tr pn xe) bd (tb W))
    (hk : ClOk X (h0 :: hds) l) : PS X (.Try bd (h0 :: hds) [] [] pos) (fun D σ H => tb (wCl X.K W0 D l) D σ H) := by
  refine ⟨fun pins s σ H D I h => wpAny_Try_except ?_⟩
  have okx := I.ok
  have fra : X.A.frames = some (X.env :: X.outer) := okx.frames.trans (congrArg some hst)
  refine wpAny_mono ((hbd (wCl X.K W0 D l) (X.pn ++ pins) (fun e s₁ => wpAny (model X.prog X.w) X.A (noteFrame e X.env) (fun _ s₂ => wpAny (model X.prog X.w) X.A (setFlight e none) (fun _ s₃ =>
      wpAny (model X.prog X.w) X.A (handleBy e X.env (h0 :: hds)) (SP X pins D) X.xe s₃) X.xe s₂) X.xe s₁) (fun u s1 xx => ?_) PassesOwn.looking).run [] s σ H D (I.toTry _) h) (fun fl s1 hsp => ?_) (fun _ _ z => z)
  · obtain ⟨ea, gr, si, pi', τ, J, cls, d, rfl, Jt, nbg, upg, skg, nea, oss, agg, wc⟩ := xx
    have iJ : Inv X pins τ J si := Jt.ofTry okx
    have sk2 : Sky gr (X.env :: X.outer) ea (Zc cls d) X.env.locals s1.heap := hst ▸ skg
    show wpAny (model X.prog X.w) X.A (noteFrame (.ref ea) X.env) _ _ _
    refine Sky.land Zc.steady fra hfl sk2 fun g3 f3 u3 => ?_
    have i3 : Inv X pins τ J { s1 with heap := g3 } := iJ.landed nbg f3.1 (upg.trans u3) oss agg
    obtain ⟨o3, v3, e3, z3, d3⟩ := f3.there
    have nfr : ea ∉ frs (X.env :: X.outer) := fun hm => by
      obtain ⟨_, o', e', hnf⟩ := f3.2.2.1.mem hm
      obtain rfl := Option.some.inj (e3.symm.trans e')
      exact hnf _ d3
    have nL : ea ≠ X.env.locals := fun z => nfr (List.mem_filterMap.mpr ⟨X.env, List.mem_cons_self, by rw [hfl, z]⟩)
    have nF : ea ∉ X.fs := fun hm => by
      obtain ⟨en, he, q⟩ := List.mem_filterMap.mp hm
      exact nfr (List.mem_filterMap.mpr ⟨en, List.mem_cons_of_mem _ he, q⟩)
    have su3 := i3.suite e3 d3 nea nL nF
    have go : ∀ {hs2 : List ExceptHandler} {l2 : List Cl}, ClOk X hs2 l2 → wCl X.K W0 D l2 cls d τ J → wpAny (model X.prog X.w) X.A (handleBy (.ref ea) X.env hs2) (SP X pins D) X.xe { s1 with heap := g3 } := by
      intro hs2 l2 ck
      induction ck with
      | nil =>
        intro wn
        refine wpAny_handleBy_nil ?_
        obtain ⟨_, _, _, oe, vs, T, oT, ts', he, hz, hd, h1, hr⟩ := id f3
        unfold PySem.passOn
        refine wpAny_bind (wpAny_field he hd h1 ?_)
        rw [if_neg (show ¬ ((Value.ref T == Value.none) = true) from by simp)]
        have last : wpAny (model X.prog X.w) X.A (setFlight (.ref ea) X.env.frame) (fun _ s4 => wpAny (model X.prog X.w) X.A (throw (.ref ea) : Sem Flow) (SP X pins D) X.xe s4) X.xe { s1 with heap := g3 } := by
          rw [hfl]
          refine HandSPX.setFlight_upZ f3 fun g4 f4 u4 => wpAny_throw (tk _ _ ?_)
          exact ⟨ea, gr, si, pins, τ, J, cls, d, rfl, iJ, nbg, (upg.trans u3).trans u4, .inr (.inr (hst ▸ f4)), nea, oss, agg, wn⟩
        first
          | exact wpAny_bind (wpAny_pure (wpAny_bind last))
          | exact wpAny_bind last
      | @cons x n k s0 su np hp hds' l' hi hln hc hsu r ih =>
        intro wn
        obtain ⟨b, hb1, yes, no⟩ := wn
        refine wpAny_handleBy_cons (codeAny_handlers_test ?_) (fun q => nomatch q)
        have lt : PySem.W.Looks (model X.prog X.w) g3 (typeOf (.ref ea)) cls := fun _ _ _ _ kk q => wpAny_typeOf_ref (kk _ _ e3) (by rw [z3.1]; exact q)
        have lm := PySem.W.exm_one (M := model X.prog X.w) i3.kIn lt hb1
        have tst : ∀ {Q : Value → Shared → Prop} {E : Value → Shared → Prop}, Q k.c { s1 with heap := g3 } → wpAny (model X.prog X.w) (X.A.mark (some (.ref ea))) (eval (.Name x np) X.env) Q E { s1 with heap := g3 } := fun {Q E} q => by
          obtain ⟨hg, hdb, hm | ⟨hm, hv, hnn⟩⟩ := hc
          · exact ld_glob (X := X.suite ea ((ea, o3) :: (X.pn ++ pins))) su3 hg hm q hdb
          · exact ld_blt (X := X.suite ea ((ea, o3) :: (X.pn ++ pins))) su3 hg hm hv q hnn hdb
        refine tst (lm.here ?_)
        cases b with
        | true =>
          refine codeAny_handlers_suite_as (HandSPX.lands_againZ f3 fun g4 f4 u4 => ?_)
          have i4 : Inv X pins τ J { s1 with heap := g4 } := iJ.landed nbg f4.1 ((upg.trans u3).trans u4) oss agg
          obtain ⟨o4, v4, e4, z4, d4⟩ := f4.there
          have su4 := i4.suite e4 d4 nea nL nF
          refine store_ok (X := X.suite ea ((ea, o4) :: (X.pn ++ pins))) (v := .ref ea) su4 nd hi (.inl hln) rfl (fun s5 su5 => ?_) (.inr hln)
          refine wpAny_mono ((hsu ea o4 cls d (X.pn ++ pins) z4 ⟨_, d4⟩).run [] s5 _ J _ su5 (yes rfl ea nea)) (fun fl s6 hsp => ?_) (fun _ _ z => False.elim z)
          have gone : ∀ {τ6 : L2.St} {J6 : Hp} {Q : Shared → Prop}, Inv (X.suite ea ((ea, o4) :: (X.pn ++ pins))) [] τ6 J6 s6 → (∀ s7, Inv X pins (τ6.set k.i none) J6 s7 → Q s7) →
              wpAny (model X.prog X.w) X.A (do bindName X.env n .none; unbindBehindTheSuite X.env n hp) (fun _ s7 => Q s7) X.xe s6 := fun {τ6 J6 Q} s6i hq => gone_ok (s6i.unsuite okx) nd hi hln hq
          match fl, hsp with
          | .next, ⟨τ6, J6, i6, q6⟩ => exact gone i6 fun s7 i7 => ⟨_, _, i7, q6⟩
          | .brk, ⟨τ6, J6, i6, q6⟩ => exact gone i6 fun s7 i7 => ⟨_, _, i7, q6⟩
          | .cont, ⟨τ6, J6, i6, q6⟩ => exact gone i6 fun s7 i7 => ⟨_, _, i7, q6⟩
          | .ret u, ⟨v6, τ6, J6, i6, r6, q6⟩ => exact gone i6 fun s7 i7 => ⟨_, _, _, i7, r6, q6⟩
        | false =>
          show wpAny _ X.A (handleBy (.ref ea) X.env hds') _ _ _
          exact ih (no rfl)
    exact go hk wc
  · match fl, hsp with
    | .next, ⟨τ, J, i', q⟩ => exact wpAny_execs_nil ⟨τ, J, i'.ofTry okx, q⟩
    | .brk, ⟨τ, J, i', q⟩ => exact ⟨τ, J, i'.ofTry okx, q⟩
    | .cont, ⟨τ, J, i', q⟩ => exact ⟨τ, J, i'.ofTry okx, q⟩
    | .ret u, ⟨v, τ, J, i', r, q⟩ => exact ⟨v, τ, J, i'.ofTry okx, r, q⟩
end
end Spk

namespace Spk
open PySem PySem.Spec PyProof.Rows L2
/-- isinstance(e, c), e the error that the suite holds at a: of the own class at D, with its dict -/
def rIsD (K : PySem.W.Frag) (a : Addr) (cls : Value) (d : Option Addr) : List V → Hp → VK → Prop := fun xs H Q =>
  ∃ (D dd : Addr) (fs : List (Str × V)) (c : V) (cv : Value) (b : Bool), cls = .ref D ∧ d = some dd ∧ H dd = some (.xd fs) ∧ xs = [.ref a, c] ∧ ClsV c cv ∧ ExcC K D ∧ PySem.W.kitOne K (.ref D) cv = some b ∧ Q (.bl b) H
theorem call_isD {X : Cx} {a : Addr} {oe : Obj} {cls : Value} {d : Option Addr} {pn : List (Addr × Obj)} (hz : Zc cls d oe) (hf : ∃ vs, oe.data = .fields vs) :
    CallR (X.suite a ((a, oe) :: pn)) (.builtin "isinstance") (rIsD X.K a cls d) := by
  intro pins s σ H xs us Q I r h
  obtain ⟨D, dd, fs, c, cv, b, rfl, rfl, hdd, rfl, kc, C, e, q⟩ := h
  obtain ⟨u1, u2, rfl, r1, r2⟩ := vals2 r
  obtain rfl : u1 = Value.ref a := r1
  have e2 := kc.eq r2
  subst e2
  obtain ⟨ha, _⟩ := I.pin (a, oe) (List.mem_append_left _ List.mem_cons_self)
  obtain ⟨vs, hv⟩ := hf
  obtain ⟨mA, hns, _⟩ := (show ObjOk X.prog X.w H s.heap dd (.xd fs) from I.hok dd _ hdd)
  obtain ⟨od, ho, _⟩ := lookIn_ns hns
  have J : PySem.W.InstAt s.heap a oe D (some od) := ⟨ha, hz.1, by unfold PySem.W.notCls; rw [hv] <;> rfl, by rw [hz.2]; exact ho⟩
  have hcl : (PySem.W.clsIn X.K D).isSome = true := by
    obtain ⟨cd, hc, _⟩ := PySem.W.any_some C.hd
    rw [hc]; rfl
  exact PySem.W.kia_one (PySem.W.kitx_exc hcl C.hg C.hk C.hs C.ha C.hn C.ht C.hm) I.kIn J e (fun z => nomatch z) fun tk => ⟨.bl b, H, I.kept (t' := tk) fun _ _ z => z, rfl, q⟩
end Spk

namespace Spk
open PySem PySem.Spec PyProof.Rows L2
/-! ### an own error over ValueError whose __init__ stores its one argument under f -/
def sp_init (C : Addr) (f : Str) : Sp := fun vs H Q _ => ∃ (a : Addr) (v : V), vs = [.ref a, v] ∧ H a = some (exo a C none) ∧ ∀ dx, H dx = none → dx ≠ a → Q .non (upd (upd H dx (exd dx [(f, v)])) a (exo a C (some dx)))
/-- what the top has left of the class -/
structure ErrT (P : Program) (w : World) (K : PySem.W.Frag) (mg : Str → Option Value) (bh : Heap) (x f : Str) (C fI : Addr) (fd : FuncData) : Prop where
  oex : OexC K C
  xf : XfC K C
  noF : PySem.W.findIn K (.ref C) f = some none
  iC : PySem.W.findIn K (.ref C) "__init__" = some (some (.ref fI))
  tI : PySem.W.typeIn K (.ref fI) = some (.type "function")
  gC : mg x = some (.ref C)
  ini : FnOk P w K mg bh CX0 1 fI fd ["self", f] (sp_init C f)
  bd : Binds K fd ["self", f] []
  self : PySem.W.exmOne K (.ref C) (.ref C) = some true
/-- the answer to what the making of an error asks: for each new d the way out -/
theorem errK {C : Addr} {f : Str} {v : V} {H1 : Hp} {Q : XK} (h : ∀ d, H1 d = none → Q (.ref C) (some d) (upd H1 d (.xd [(f, v)]))) :
    ([v] : List V).length ≤ 1000 ∧ ∀ a, H1 a = none → sp_init C f (.ref a :: ([v] ++ [])) (upd H1 a (exo a C none))
      (fun w H2 => w = .non ∧ ∃ (d : Addr) (fs : List (Str × V)), H2 a = some (exo a C (some d)) ∧ H2 d = some (exd d fs) ∧ H1 d = none ∧ Q (.ref C) (some d) (upd (del H2 a) d (.xd fs))) (fun _ _ _ => False) := by
  refine ⟨by simp, fun a na => ⟨a, v, rfl, upd_same, fun dx ndx nea => ⟨rfl, dx, [(f, v)], upd_same, (upd_ne nea).trans upd_same, (upd_ne nea).symm.trans ndx, ?_⟩⟩⟩
  have e : upd (del (upd (upd (upd H1 a (exo a C none)) dx (exd dx [(f, v)])) a (exo a C (some dx))) a) dx (.xd [(f, v)]) = upd H1 dx (.xd [(f, v)]) := by
    funext b
    by_cases h1 : b = dx
    · subst h1; rw [upd_same, upd_same]
    · rw [upd_ne h1, upd_ne h1]
      by_cases h2 : b = a
      · subst h2; rw [del_same, na]
      · rw [del_ne h2, upd_ne h2, upd_ne h1, upd_ne h2]
  rw [e]
  exact h dx ((upd_ne nea).symm.trans ndx)
section
variable {X : Cx} {x f : Str} {C fI : Addr} {fd : FuncData} {e : Expr} {te : TE} {W : WX} {p pos pos2 : Pos}
/-- raise X(e) -/
theorem ps_raiseE {k : Nat} (hc : X.calm = true) (T : ErrT X.prog X.w X.K X.mg X.base x f C fI fd) (rm : Room k X.A) (hk : 2 ≤ k) (tk : Takes X W) (hg : Gl X x) (he : PE X e te) (hdb : (x == ("__debug__" : Str)) = false := by decide)
    (hs : starEach [e] X.env = (false, eval e X.env) :: starEach [] X.env := by rfl) (hpl : (backTo pos (starEach [] X.env)).any (·.1) = false := by rfl) :
    PS X (.Raise (some (.Call (.Name x p) [e] [] pos)) none pos2) (fun _ σ H => tMkO C (sp_init C f) [] (tCons te tNil) σ H fun cls d H' => W cls d σ H') :=
  ps_raise hc tk (pmk_oex T.oex T.iC T.tI T.ini (rm.mono hk) T.bd .nil pass0 hg T.gC (pa_cons he pa_nil hs) hdb hs hpl)
end
section
variable {P : Program} {w : World} {K : PySem.W.Frag} {mg : Str → Option Value} {bh : Heap} {C : Addr} {f qu : Str} {st : Stmt} {fI : Addr} {fd : FuncData} {q1 q2 q3 q4 : Pos}
/-- the __init__ of such a class -/
theorem ok_init (F : Fun K "__init__" qu st fI fd) (S : FnScope ["self", f] ["self", f] (defScope st)) (O : OexC K C) (noF : PySem.W.findIn K (.ref C) f = some none)
    (hb : defBody st = [.Assign [.Attribute (.Name "self" q1) f q2] (.Name f q3) q4]) (hf1 : (f == ("__debug__" : Str)) = false) (hf2 : (f == ("__classdict__" : Str)) = false)
    (v0 : (defScope st).names.lookup ("self" : Str) = some .local) (v1 : (defScope st).names.lookup f = some .local) : FnOk P w K mg bh CX0 1 fI fd ["self", f] (sp_init C f) := by
  refine F.ok S (fun vs H Q E h => ?_) (fun cdv A outer s H vs Q E hr h => ?_)
  · obtain ⟨a, v, rfl, _⟩ := h
    rfl
  · obtain ⟨a, v, rfl, ha, q⟩ := h
    rw [hb]
    refine ⟨_, pss_one (ps_ost (pv 0 rfl (Or.inl v0) (by decide) (by decide)) (pv 1 rfl (Or.inl v1) hf1 hf2)), ?_⟩
    exact ⟨_, rfl, _, rfl, a, C, rfl, O, noF, .inl ⟨ha, fun dx n ne => q dx n ne⟩⟩
end
end Spk

namespace Spk
/-! ### pairs of edges, the union as a function on lists of pairs -/
abbrev Pr := Int × Int
def ple (p q : Pr) : Prop := p.1 < q.1 ∨ (p.1 = q.1 ∧ p.2 ≤ q.2)
instance (p q : Pr) : Decidable (ple p q) := inferInstanceAs (Decidable (_ ∨ _))
theorem ple_trans {p q r : Pr} (a : ple p q) (b : ple q r) : ple p r := by unfold ple at *; omega
theorem ple_total (p q : Pr) : ple p q ∨ ple q p := by unfold ple; omega
theorem ple_anti {p q : Pr} (a : ple p q) (b : ple q p) : p = q := by
  obtain ⟨x, y⟩ := p; obtain ⟨z, w⟩ := q
  simp only [ple] at a b
  have : x = z := by omega
  have : y = w := by omega
  subst x; subst y; rfl
theorem ple_refl (p : Pr) : ple p p := by unfold ple; omega
def ins (p : Pr) : List Pr → List Pr
  | [] => [p]
  | q :: r => if ple p q then p :: q :: r else q :: ins p r
def srt : List Pr → List Pr
  | [] => []
  | p :: r => ins p (srt r)
theorem ins_perm (p : Pr) : ∀ l, (ins p l).Perm (p :: l)
  | [] => .refl _
  | q :: r => by
    unfold ins
    split
    · exact .refl _
    · exact ((ins_perm p r).cons q).trans (List.Perm.swap p q r)
theorem srt_perm : ∀ l, (srt l).Perm l
  | [] => .refl _
  | p :: r => (ins_perm p _).trans ((srt_perm r).cons p)
theorem ins_sorted (p : Pr) : ∀ l, l.Pairwise ple → (ins p l).Pairwise ple
  | [], _ => by simp [ins]
  | q :: r, h => by
    unfold ins
    have hq := List.pairwise_cons.mp h
    split
    · rename_i c
      refine List.pairwise_cons.mpr ⟨fun y hy => ?_, h⟩
      rcases List.mem_cons.mp hy with e | hy
      · exact e ▸ c
      · exact ple_trans c (hq.1 y hy)
    · rename_i c
      refine List.pairwise_cons.mpr ⟨fun y hy => ?_, ins_sorted p r hq.2⟩
      have := (ins_perm p r).mem_iff.mp hy
      rcases List.mem_cons.mp this with e | hy
      · rw [e]; exact (ple_total p q).resolve_left c
      · exact hq.1 y hy
theorem srt_sorted : ∀ l, (srt l).Pairwise ple
  | [] => List.Pairwise.nil
  | p :: r => ins_sorted p _ (srt_sorted r)
theorem sorted_uniq : ∀ {l m : List Pr}, l.Pairwise ple → m.Pairwise ple → l.Perm m → l = m
  | [], m, _, _, h => (List.Perm.nil_eq h)
  | x :: l, [], _, _, h => absurd h.length_eq (by simp)
  | x :: l, y :: m, hl, hm, h => by
    have h1 := List.pairwise_cons.mp hl
    have h2 := List.pairwise_cons.mp hm
    have a : ple x y := by
      rcases List.mem_cons.mp (h.mem_iff.mpr (List.mem_cons_self (a := y) (l := m))) with e | q
      · rw [e]; exact ple_refl x
      · exact h1.1 y q
    have b : ple y x := by
      rcases List.mem_cons.mp (h.mem_iff.mp (List.mem_cons_self (a := x) (l := l))) with e | q
      · rw [e]; exact ple_refl y
      · exact h2.1 x q
    have e := ple_anti a b
    subst e
    rw [sorted_uniq h1.2 h2.2 h.cons_inv]
/-- one turn of join_sorted's loop -/
def stepJ (s : List Pr × Pr) (p : Pr) : List Pr × Pr :=
  if s.2.2 < p.1 then (s.1 ++ [s.2], p) else (s.1, (s.2.1, if s.2.2 < p.2 then p.2 else s.2.2))
def joinF : List Pr → List Pr
  | [] => []
  | p :: r => let s := (p :: r).foldl stepJ ([], p); s.1 ++ [s.2]
/-- the same by recursion -/
def joinG (c : Pr) : List Pr → List Pr
  | [] => [c]
  | p :: r => if c.2 < p.1 then c :: joinG p r else joinG (c.1, if c.2 < p.2 then p.2 else c.2) r
theorem fold_joinG : ∀ (l : List Pr) (acc : List Pr) (c : Pr), (let s := l.foldl stepJ (acc, c); s.1 ++ [s.2]) = acc ++ joinG c l
  | [], acc, c => rfl
  | p :: r, acc, c => by
    simp only [List.foldl_cons, joinG, stepJ]
    split
    · have := fold_joinG r (acc ++ [c]) p
      simp only at this
      rw [this, List.append_assoc]; rfl
    · have := fold_joinG r acc (c.1, if c.2 < p.2 then p.2 else c.2)
      simp only at this
      rw [this]
def joinM : List Pr → List Pr
  | [] => []
  | p :: r => joinG p (p :: r)
theorem joinF_eq : ∀ l, joinF l = joinM l
  | [] => rfl
  | p :: r => by
    have := fold_joinG (p :: r) [] p
    simp only [List.nil_append] at this
    exact this
def gapd : List Pr → Bool
  | [] => true
  | [_] => true
  | p :: q :: r => decide (p.2 < q.1) && gapd (q :: r)
/-- z: whether ends are read as shut -/
def emp (z : Bool) (p : Pr) : Bool := if z then decide (p.2 < p.1) else decide (p.2 ≤ p.1)
def unionM (z : Bool) (l : List Pr) : List Pr := joinM (srt (l.filter fun p => !emp z p))
def oneF (z : Bool) (l : List Pr) : Bool := l.all (fun p => !emp z p) && gapd l
theorem joinG_head : ∀ (l : List Pr) (c : Pr), ∃ h r, joinG c l = (c.1, h) :: r
  | [], c => ⟨c.2, [], rfl⟩
  | p :: r, c => by
    unfold joinG
    split
    · exact ⟨c.2, _, rfl⟩
    · exact joinG_head r (c.1, if c.2 < p.2 then p.2 else c.2)
theorem joinG_gapd : ∀ (l : List Pr) (c : Pr), gapd (joinG c l) = true
  | [], c => rfl
  | p :: r, c => by
    unfold joinG
    split
    · rename_i h
      obtain ⟨hh, rr, e⟩ := joinG_head r p
      have ih := joinG_gapd r p
      rw [e] at ih ⊢
      unfold gapd
      rw [ih, decide_eq_true (by exact h)]; rfl
    · exact joinG_gapd r _
theorem joinG_full {z : Bool} : ∀ (l : List Pr) (c : Pr), emp z c = false → (∀ p ∈ l, emp z p = false) → ∀ p ∈ joinG c l, emp z p = false
  | [], c, hc, _, p, hp => by
    rw [joinG] at hp
    obtain rfl : p = c := by simpa using hp
    exact hc
  | q :: r, c, hc, hl, p, hp => by
    unfold joinG at hp
    split at hp
    · rcases List.mem_cons.mp hp with e | hp
      · exact e ▸ hc
      · exact joinG_full r q (hl q (by simp)) (fun x hx => hl x (by simp [hx])) p hp
    · refine joinG_full r _ ?_ (fun x hx => hl x (by simp [hx])) p hp
      unfold emp at hc ⊢
      cases z <;> simp at hc ⊢ <;> split <;> omega
theorem joinM_one {z : Bool} {l : List Pr} (h : ∀ p ∈ l, emp z p = false) : oneF z (joinM l) = true := by
  cases l with
  | nil => rfl
  | cons p r =>
    unfold oneF joinM
    rw [joinG_gapd, Bool.and_true, List.all_eq_true]
    intro q hq
    rw [joinG_full (z := z) (p :: r) p (h p (by simp)) h q hq]; rfl
theorem joinG_id : ∀ (l : List Pr) (c : Pr), gapd (c :: l) = true → joinG c l = c :: l
  | [], c, _ => rfl
  | p :: r, c, h => by
    unfold gapd at h
    rw [Bool.and_eq_true, decide_eq_true_eq] at h
    unfold joinG
    rw [if_pos h.1, joinG_id r p h.2]
theorem joinM_id {l : List Pr} (h : gapd l = true) (hs : ∀ p ∈ l, p.1 ≤ p.2) : joinM l = l := by
  cases l with
  | nil => rfl
  | cons p r =>
    have : p.1 ≤ p.2 := hs p (by simp)
    show joinG p (p :: r) = p :: r
    unfold joinG
    rw [if_neg (show ¬ p.2 < p.1 by omega), if_neg (show ¬ p.2 < p.2 by omega)]
    exact joinG_id r p h
theorem gapd_tail {p : Pr} {r : List Pr} (h : gapd (p :: r) = true) : gapd r = true := by
  cases r with
  | nil => rfl
  | cons q r => unfold gapd at h; rw [Bool.and_eq_true] at h; exact h.2
theorem gapd_lt : ∀ {p : Pr} {r : List Pr}, gapd (p :: r) = true → (∀ q ∈ r, q.1 ≤ q.2) → ∀ q ∈ r, p.2 < q.1
  | p, [], _, _, q, hq => by simp at hq
  | p, q :: r, h, hs, x, hx => by
    unfold gapd at h
    rw [Bool.and_eq_true, decide_eq_true_eq] at h
    rcases List.mem_cons.mp hx with e | hx
    · exact e ▸ h.1
    · have := gapd_lt h.2 (fun y hy => hs y (by simp [hy])) x hx
      have := hs q (by simp)
      omega
theorem gapd_sorted : ∀ {l : List Pr}, gapd l = true → (∀ q ∈ l, q.1 ≤ q.2) → l.Pairwise ple
  | [], _, _ => .nil
  | p :: r, h, hs => List.pairwise_cons.mpr ⟨fun q hq => by
      have := gapd_lt h (fun y hy => hs y (by simp [hy])) q hq
      have := hs p (by simp)
      exact .inl (by omega), gapd_sorted (gapd_tail h) fun y hy => hs y (by simp [hy])⟩
/-- the union leaves a list as it is just where the list is in one form -/
theorem union_fix {z : Bool} {l : List Pr} (hs : ∀ p ∈ l, p.1 ≤ p.2) : unionM z l = l ↔ oneF z l = true := by
  constructor
  · intro h
    rw [← h]
    unfold unionM
    refine joinM_one fun p hp => ?_
    have := (srt_perm _).mem_iff.mp hp
    have := (List.mem_filter.mp this).2
    simpa using this
  · intro h
    unfold oneF at h
    rw [Bool.and_eq_true, List.all_eq_true] at h
    unfold unionM
    have e1 : l.filter (fun p => !emp z p) = l := List.filter_eq_self.mpr h.1
    have e2 : srt l = l := sorted_uniq (srt_sorted l) (gapd_sorted h.2 hs) (srt_perm l)
    rw [e1, e2, joinM_id h.2 hs]
end Spk

namespace Spk
open PySem PySem.Spec PyProof.Rows L2
/-! ### any objects, as data -/
def isNum : PyData → Bool
  | .int _ => true
  | _ => false
def intish : PyData → Bool
  | .int _ => true
  | .bool _ => true
  | _ => false
def boolish : PyData → Bool
  | .bool _ => true
  | _ => false
def tupish : PyData → Bool
  | .tuple _ => true
  | _ => false
def tyN : PyData → String
  | .none => "NoneType"
  | .bool _ => "bool"
  | .int _ => "int"
  | .str _ => "str"
  | .list _ => "list"
  | .tuple _ => "tuple"
  | .dict _ => "dict"
def edgeI (i : Int) : Bool := (decide (-1000000000000000000000000000000 ≤ i) && decide (i ≤ 1000000000000000000000000000000)) || (decide (i = -10000000000000000000000000000000) || decide (i = 10000000000000000000000000000000))
def isEdge : PyData → Bool
  | .int i => edgeI i
  | _ => false
def isPair : PyData → Bool
  | .tuple [a, b] => isEdge a && isEdge b
  | _ => false
def strP (p : Pr) : Bool := edgeI p.1 && edgeI p.2 && (decide (p.1 ≤ p.2) && (decide (p.1 < 10000000000000000000000000000000) && decide (-10000000000000000000000000000000 < p.2)))
/-- the data of a pair -/
def prD (p : Pr) : PyData := .tuple [.int p.1, .int p.2]
def isStr : PyData → Bool
  | .tuple [.int a, .int b] => strP (a, b)
  | _ => false
section
variable {K : PySem.W.Frag} {H : Hp} {v : V} {d : PyData}
theorem dpTy (h : Dp K H v d) : TyX K H v (.type (tyN d)) := by
  cases h with
  | non => exact .base .non
  | bl b => exact .base (.bl b)
  | int i => exact .base (.int i)
  | str x => exact .base (.str x)
  | lst q r =>
    rcases q with (q | ⟨o, q⟩) | ⟨o, its, n, q, c, _⟩
    · exact .base (.lst q)
    · exact .base (.frz q)
    · exact .kList q c
  | tup q r =>
    rcases q with (q | ⟨o, q⟩) | ⟨o, its, n, q, c, _⟩
    · exact .base (.tup q)
    · exact .fTuple q
    · exact .kTuple q c
theorem kitInt (d : PyData) : kitB (tyN d) "int" = some (intish d) := by cases d <;> simp only [tyN, intish] <;> decide +kernel
theorem kitBool (d : PyData) : kitB (tyN d) "bool" = some (boolish d) := by cases d <;> simp only [tyN, boolish] <;> decide +kernel
theorem kitTup (d : PyData) : kitB (tyN d) "tuple" = some (tupish d) := by cases d <;> simp only [tyN, tupish] <;> decide +kernel
theorem isNum_eq (d : PyData) : isNum d = (intish d && !boolish d) := by cases d <;> rfl
end
theorem inV2 (i a b : Int) : inV (.int i) [.int a, .int b] = (decide (i = a) || decide (i = b)) := by
  have e : ∀ a : Int, eqV (.int a) (.int i) = decide (i = a) := fun a => by
    show (a == i) = decide (i = a)
    by_cases h : i = a
    · rw [h, decide_eq_true rfl]; exact beq_self_eq_true a
    · rw [decide_eq_false h]; exact beq_eq_false_iff_ne.mpr (Ne.symm h)
  show (eqV (.int a) (.int i) || (eqV (.int b) (.int i) || false)) = _
  rw [e, e, Bool.or_false]
theorem dpAll_len {K : PySem.W.Frag} {H : Hp} : ∀ {vs : List V} {ds : List PyData}, DpAll K H vs ds → vs.length = ds.length
  | _, _, .nil => rfl
  | _, _, .cons _ t => congrArg Nat.succ (dpAll_len t)
theorem tup_of {K : PySem.W.Frag} {H : Hp} {v : V} {d : PyData} (h : Dp K H v d) (c : tupish d = true) : ∃ a xs ds, v = .ref a ∧ d = .tuple ds ∧ SqT K H a xs ∧ DpAll K H xs ds := by
  cases h with
  | tup sq da => exact ⟨_, _, _, rfl, rfl, sq, da⟩
  | _ => cases c
theorem int_of {K : PySem.W.Frag} {H : Hp} {v : V} {d : PyData} (h : Dp K H v d) (c : isNum d = true) : ∃ i, v = .int i ∧ d = .int i := by
  cases h with
  | int i => exact ⟨i, rfl, rfl⟩
  | _ => cases c
theorem dpAll2 {K : PySem.W.Frag} {H : Hp} {xs : List V} {ds : List PyData} (h : DpAll K H xs ds) (l : xs.length = 2) : ∃ x y d1 d2, xs = [x, y] ∧ ds = [d1, d2] ∧ Dp K H x d1 ∧ Dp K H y d2 := by
  cases h with
  | nil => simp at l
  | cons h1 h =>
    cases h with
    | nil => simp at l
    | cons h2 h =>
      cases h with
      | nil => exact ⟨_, _, _, _, rfl, rfl, h1, h2⟩
      | cons _ _ => simp at l
theorem dpPr {K : PySem.W.Frag} {H : Hp} {v : V} {a b : Int} (h : Dp K H v (.tuple [.int a, .int b])) : ∃ p, v = .ref p ∧ SqT K H p [.int a, .int b] := by
  cases h with
  | tup sq da =>
    cases da with
    | cons h1 h =>
      cases h with
      | cons h2 h =>
        cases h; cases h1; cases h2
        exact ⟨_, rfl, sq⟩
theorem isPair_len {ds : List PyData} (h : ds.length ≠ 2) : isPair (.tuple ds) = false := by
  unfold isPair
  split
  · rename_i e
    cases e
    exact absurd rfl h
  · rfl
theorem isPair_not {d : PyData} (h : ¬ tupish d = true) : isPair d = false := by
  cases d with
  | tuple _ => exact absurd rfl h
  | _ => rfl
theorem isEdge_not {d : PyData} (h : ¬ isNum d = true) : isEdge d = false := by
  cases d with
  | int _ => exact absurd rfl h
  | _ => rfl
theorem edge_of {d : PyData} (h : isEdge d = true) : ∃ a, d = .int a ∧ edgeI a = true := by
  unfold isEdge at h
  split at h
  · exact ⟨_, rfl, h⟩
  · cases h
theorem pair_of {d : PyData} (h : isPair d = true) : ∃ a b, d = .tuple [.int a, .int b] ∧ edgeI a = true ∧ edgeI b = true := by
  unfold isPair at h
  split at h
  · rw [Bool.and_eq_true] at h
    obtain ⟨a, rfl, ha⟩ := edge_of h.1
    obtain ⟨b, rfl, hb⟩ := edge_of h.2
    exact ⟨a, b, rfl, ha, hb⟩
  · cases h
theorem isStr_not {d : PyData} (h : ¬ isPair d = true) : isStr d = false := by
  unfold isStr
  split
  · rename_i a b
    have : (edgeI a && edgeI b) = false := by
      rw [← Bool.not_eq_true]
      exact h
    unfold strP
    rw [this, Bool.false_and]
  · rfl
theorem str_of {d : PyData} (h : isStr d = true) : ∃ a b, d = prD (a, b) ∧ strP (a, b) = true := by
  unfold isStr at h
  split at h
  · exact ⟨_, _, rfl, h⟩
  · cases h
/-- refs to tuples of two ints -/
def Pd (H : Hp) : List Addr → List Pr → Prop
  | [], [] => True
  | t :: ts, p :: ps => H t = some (.tup [.int p.1, .int p.2]) ∧ Pd H ts ps
  | _, _ => False
theorem Pd.len {H : Hp} : ∀ {ts : List Addr} {ps : List Pr}, Pd H ts ps → ts.length = ps.length
  | [], [], _ => rfl
  | t :: ts, p :: ps, h => by simp [Pd.len h.2]
  | [], _ :: _, h => h.elim
  | _ :: _, [], h => h.elim
theorem Pd.same {H H' : Hp} (e : Same H H') : ∀ {ts : List Addr} {ps : List Pr}, Pd H ts ps → Pd H' ts ps
  | [], [], _ => trivial
  | t :: ts, p :: ps, h => ⟨e _ _ h.1, Pd.same e h.2⟩
  | [], _ :: _, h => h.elim
  | _ :: _, [], h => h.elim
/-- what changes is no tuple -/
theorem Pd.kp {q : Addr} {H H' : Hp} (e : Kp q H H') (hq : ∀ xs, H q ≠ some (.tup xs)) : ∀ {ts : List Addr} {ps : List Pr}, Pd H ts ps → Pd H' ts ps
  | [], [], _ => trivial
  | t :: ts, p :: ps, h => ⟨e _ _ (fun z => hq _ (z ▸ h.1)) h.1, Pd.kp e hq h.2⟩
  | [], _ :: _, h => h.elim
  | _ :: _, [], h => h.elim
theorem Pd.get {H : Hp} : ∀ {ts : List Addr} {ps : List Pr}, Pd H ts ps → ∀ {i : Nat} {t : Addr}, ts[i]? = some t → ∃ p, ps[i]? = some p ∧ H t = some (.tup [.int p.1, .int p.2])
  | [], [], _, i, t, h => by simp at h
  | t :: ts, p :: ps, h, 0, t', e => by
    simp at e; subst e
    exact ⟨p, rfl, h.1⟩
  | t :: ts, p :: ps, h, i + 1, t', e => by
    obtain ⟨q, h1, h2⟩ := Pd.get h.2 (i := i) (t := t') (by simpa using e)
    exact ⟨q, by simpa using h1, h2⟩
  | [], _ :: _, h, _, _, _ => h.elim
  | _ :: _, [], h, _, _, _ => h.elim
theorem Pd.app {H : Hp} : ∀ {ts : List Addr} {ps : List Pr} {us : List Addr} {qs : List Pr}, Pd H ts ps → Pd H us qs → Pd H (ts ++ us) (ps ++ qs)
  | [], [], _, _, _, h => h
  | t :: ts, p :: ps, _, _, h, k => ⟨h.1, Pd.app h.2 k⟩
  | [], _ :: _, _, _, h, _ => h.elim
  | _ :: _, [], _, _, h, _ => h.elim
theorem Pd.set {H : Hp} : ∀ {ts : List Addr} {ps : List Pr} (i : Nat) {t : Addr} {p : Pr}, Pd H ts ps → H t = some (.tup [.int p.1, .int p.2]) → Pd H (ts.set i t) (ps.set i p)
  | [], [], _, _, _, h, _ => h
  | t :: ts, p :: ps, 0, _, _, h, k => ⟨k, h.2⟩
  | t :: ts, p :: ps, i + 1, _, _, h, k => ⟨h.1, Pd.set i h.2 k⟩
  | [], _ :: _, _, _, _, h, _ => h.elim
  | _ :: _, [], _, _, _, h, _ => h.elim
theorem Pd.dp {K : PySem.W.Frag} {H : Hp} : ∀ {ts : List Addr} {ps : List Pr}, Pd H ts ps → DpAll K H (ts.map V.ref) (ps.map prD)
  | [], [], _ => .nil
  | t :: ts, p :: ps, h => .cons (.tup (SqT.hp h.1) (.cons (.int _) (.cons (.int _) .nil))) (Pd.dp h.2)
  | [], _ :: _, h => h.elim
  | _ :: _, [], h => h.elim
/-- the draws of a law -/
def BagAt (H : Hp) (p : Addr) (c : Int) : Prop := ∃ b0 b1 b2 b3 : Int, H p = some (.lst [.int b0, .int b1, .int b2, .int b3]) ∧ 0 ≤ b0 ∧ 0 ≤ b1 ∧ b1 < 2305843009213693951 ∧ 0 ≤ b2 ∧ b2 ≤ 1073741824 ∧ 0 ≤ b3 ∧ b3 ≤ c
theorem BagAt.mono {H : Hp} {p : Addr} {c d : Int} (h : BagAt H p c) (e : c ≤ d) : BagAt H p d := by
  obtain ⟨b0, b1, b2, b3, h0, h1, h2, h3, h4, h5, h6, h7⟩ := h
  exact ⟨b0, b1, b2, b3, h0, h1, h2, h3, h4, h5, h6, by omega⟩
theorem BagAt.same {H H' : Hp} {p : Addr} {c : Int} (h : BagAt H p c) (e : Same H H') : BagAt H' p c := by
  obtain ⟨b0, b1, b2, b3, h0, h1⟩ := h
  exact ⟨b0, b1, b2, b3, e _ _ h0, h1⟩
theorem BagAt.lst {H : Hp} {p : Addr} {c : Int} (h : BagAt H p c) : ∃ xs, H p = some (.lst xs) := by
  obtain ⟨b0, b1, b2, b3, h0, h1⟩ := h
  exact ⟨_, h0⟩
/-- all but the bag at p is as it was, what was free too -/
def But (p : Addr) (H H' : Hp) : Prop := ∀ b, b ≠ p → H' b = H b
theorem But.kp {p : Addr} {H H' : Hp} (h : But p H H') : Kp p H H' := fun b o n e => (h b n).trans e
theorem But.trans {p : Addr} {H H1 H2 : Hp} (a : But p H H1) (b : But p H1 H2) : But p H H2 := fun c n => (b c n).trans (a c n)
theorem But.refl {p : Addr} {H : Hp} : But p H H := fun _ _ => rfl
theorem lgDiv {i m : Int} (h0 : 0 < m) (h : m ≤ 1000000000000000000000000000000000000000000000) : CDivW i m :=
  wide_div (b := 200) h0 (by omega) (by decide) (by decide)
theorem vals_rev2 {zs : List V} {ws : List Value} (r : Vals zs ws) : Vals zs.reverse ws.reverse := by
  have : ∀ {zs : List V} {ws : List Value} {as : List V} {bs : List Value}, Vals zs ws → Vals as bs → Vals (zs.reverseAux as) (ws.reverseAux bs) := by
    intro zs
    induction zs with
    | nil => intro ws as bs h k; cases h; exact k
    | cons z zs ih =>
      intro ws as bs h k
      cases h with
      | @cons _ u _ us a b =>
        show Vals (zs.reverseAux (z :: as)) (us.reverseAux (u :: bs))
        exact ih b (.cons a k)
  exact this r .nil
end Spk
namespace Spk
open PySem PySem.Spec PyProof.Rows L2
theorem eqvAllPs : ∀ ps qs : List Pr, PyData.eqvAll (ps.map prD) (qs.map prD) = decide (ps = qs)
  | [], [] => rfl
  | p :: ps, [] => rfl
  | [], q :: qs => rfl
  | p :: ps, q :: qs => by
    show (((p.1 == q.1) && ((p.2 == q.2) && true)) && PyData.eqvAll (ps.map prD) (qs.map prD)) = decide (p :: ps = q :: qs)
    rw [eqvAllPs ps qs]
    obtain ⟨a, b⟩ := p
    obtain ⟨c, d⟩ := q
    by_cases h1 : a = c <;> by_cases h2 : b = d <;> by_cases h3 : ps = qs <;> simp [h1, h2, h3]
theorem eqvPs (ps qs : List Pr) : PyData.eqv (.list (ps.map prD)) (.list (qs.map prD)) = decide (ps = qs) := eqvAllPs ps qs
theorem canLayPs : ∀ ps : List Pr, PyData.canLayAll0 (ps.map prD) = true
  | [] => rfl
  | p :: ps => by
    show (PyData.canLay0 (prD p) && PyData.canLayAll0 (ps.map prD)) = true
    rw [canLayPs ps]; rfl
theorem depthPs : ∀ ps : List Pr, PyData.depthAll (ps.map prD) ≤ 1
  | [] => Nat.zero_le _
  | p :: ps => by
    show max (PyData.depth (prD p)) (PyData.depthAll (ps.map prD)) ≤ 1
    exact Nat.max_le.mpr ⟨by show PyData.depth (.tuple [.int p.1, .int p.2]) ≤ 1; simp [PyData.depth, PyData.depthAll], depthPs ps⟩
theorem shapedPs (ps : List Pr) : SeqAt.shaped (.list (ps.map prD)) = true := by
  have h1 : PyData.canLay0 (.list (ps.map prD)) = true := canLayPs ps
  have h2 : PyData.depth (.list (ps.map prD)) ≤ 64 := by
    have := depthPs ps
    simp only [PyData.depth]; omega
  unfold SeqAt.shaped
  rw [h1, decide_eq_true h2]; rfl
theorem dpAll_get {K : PySem.W.Frag} {H : Hp} : ∀ {xs : List V} {ds : List PyData}, DpAll K H xs ds → ∀ {i : Nat} {x : V}, xs[i]? = some x → ∃ d, d ∈ ds ∧ Dp K H x d
  | _, _, .nil, i, x, h => by simp at h
  | _, _, .cons a t, 0, x, h => by
    simp at h; subst h
    exact ⟨_, List.mem_cons_self, a⟩
  | _, _, .cons a t, i + 1, x, h => by
    obtain ⟨d, h1, h2⟩ := dpAll_get t (i := i) (x := x) (by simpa using h)
    exact ⟨d, List.mem_cons_of_mem _ h1, h2⟩
def endsV (z : Bool) : V := if z then .str "shut" else .str "half"
theorem endsV_shut (z : Bool) : decide (endsV z = .str "shut") = z := by cases z <;> decide +kernel
theorem endsV_half (z : Bool) : decide (endsV z = .str "half") = !z := by cases z <;> decide +kernel
theorem endsV_scal (z : Bool) : scal (endsV z) (.str "shut") = true := by cases z <;> rfl
theorem endsV_scalH (z : Bool) : scal (endsV z) (.str "half") = true := by cases z <;> rfl
theorem strP_le {p : Pr} (h : strP p = true) : p.1 ≤ p.2 := by
  unfold strP at h
  simp only [Bool.and_eq_true, decide_eq_true_eq] at h
  exact h.2.1
theorem map_get {α β : Type} {f : α → β} {l : List α} {i : Nat} {y : β} (h : (l.map f)[i]? = some y) : ∃ x, l[i]? = some x ∧ y = f x := by
  rw [List.getElem?_map] at h
  cases e : l[i]? with
  | none => rw [e] at h; cases h
  | some x => rw [e] at h; exact ⟨x, rfl, (Option.some.inj h).symm⟩
theorem take_more {α : Type} {l : List α} {i : Nat} {x : α} (h : l[i]? = some x) : l.take (i + 1) = l.take i ++ [x] := by
  rw [List.take_add_one, h]; rfl
theorem stepJ_len (l : List Pr) (s : List Pr × Pr) : ((l.foldl stepJ s).1).length ≤ s.1.length + l.length := by
  induction l generalizing s with
  | nil => exact Nat.le_refl _
  | cons p r ih =>
    have h := ih (stepJ s p)
    have : (stepJ s p).1.length ≤ s.1.length + 1 := by unfold stepJ; split <;> simp
    simp only [List.foldl_cons, List.length_cons]; omega
theorem stepJ_len0 (l : List Pr) (p : Pr) : ((l.foldl stepJ ([], p)).1).length ≤ l.length := by
  have := stepJ_len l ([], p)
  simpa using this
end Spk
namespace Spk
open PySem PySem.Spec PyProof.Rows L2
/-- the pair that a ref's tuple holds -/
def kOf (H : Hp) : V → Int × Int
  | .ref t => match H t with
    | some (.tup [.int a, .int b]) => (a, b)
    | _ => (0, 0)
  | _ => (0, 0)
theorem kOf_at {H : Hp} {t : Addr} {p : Pr} (h : H t = some (.tup [.int p.1, .int p.2])) : kOf H (.ref t) = p := by
  show (match H t with | some (.tup [.int a, .int b]) => (a, b) | _ => (0, 0)) = p
  rw [h]
theorem Pd.map {H : Hp} : ∀ {ts : List Addr} {ps : List Pr}, Pd H ts ps → (ts.map V.ref).map (kOf H) = ps
  | [], [], _ => rfl
  | t :: ts, p :: ps, h => by
    show kOf H (.ref t) :: (ts.map V.ref).map (kOf H) = p :: ps
    rw [kOf_at h.1, Pd.map h.2]
  | [], _ :: _, h => h.elim
  | _ :: _, [], h => h.elim
theorem Pd.all {H : Hp} : ∀ {ts : List Addr} {ps : List Pr}, Pd H ts ps → ∀ x ∈ ts.map V.ref, ∃ t, x = V.ref t ∧ H t = some (.tup [.int (kOf H x).1, .int (kOf H x).2])
  | [], [], _, x, hx => by simp at hx
  | t :: ts, p :: ps, h, x, hx => by
    rcases List.mem_cons.mp (show x ∈ V.ref t :: ts.map V.ref from hx) with e | hx
    · exact ⟨t, e, by rw [e, kOf_at h.1]; exact h.1⟩
    · exact Pd.all h.2 x hx
  | [], _ :: _, h, _, _ => h.elim
  | _ :: _, [], h, _, _ => h.elim
theorem refs_of {H : Hp} : ∀ {ys : List V}, (∀ x ∈ ys, ∃ t, x = V.ref t ∧ H t = some (.tup [.int (kOf H x).1, .int (kOf H x).2])) → ∃ us, ys = us.map V.ref ∧ Pd H us (ys.map (kOf H))
  | [], _ => ⟨[], rfl, trivial⟩
  | y :: ys, h => by
    obtain ⟨t, e, ht⟩ := h y (by simp)
    obtain ⟨us, e2, pd⟩ := refs_of (ys := ys) fun x hx => h x (by simp [hx])
    exact ⟨t :: us, by rw [e, e2]; rfl, ht, pd⟩
theorem ltP_ple {k : V → Int × Int} {x y : V} (h : ltP k y x = false) : ple (k x) (k y) := by
  have h2 : ¬ (SrtO.lexB (k y) (k x) = true) := by rw [show SrtO.lexB (k y) (k x) = false from h]; decide
  rw [SrtO.lexB_iff] at h2
  unfold ple
  omega
/-- sorted of refs to pairs -/
theorem sorted_refs {H : Hp} {ts : List Addr} {ps : List Pr} {ys : List V} (pd : Pd H ts ps) (hs : SrtO.Srtd (ltP (kOf H)) ys) (hb : SrtO.Stb (ltP (kOf H)) ys (ts.map V.ref)) :
    ∃ us, ys = us.map V.ref ∧ Pd H us (srt ps) := by
  obtain ⟨us, e, pu⟩ := refs_of (H := H) (ys := ys) fun x hx => pd.all x (hb.perm.mem_iff.mp hx)
  have hp : (ys.map (kOf H)).Perm ps := by
    have := hb.perm.map (kOf H)
    rwa [pd.map] at this
  have hso : (ys.map (kOf H)).Pairwise ple := List.pairwise_map.mpr (hs.imp fun h => ltP_ple h)
  have e2 : ys.map (kOf H) = srt ps := sorted_uniq hso (srt_sorted ps) (hp.trans (srt_perm ps).symm)
  exact ⟨us, e, e2 ▸ pu⟩
end Spk
namespace Spk
open PySem PySem.Spec PyProof.Rows L2
theorem gapd_iff : ∀ {l : List Pr}, gapd l = true ↔ ∀ i p q, l[i]? = some p → l[i + 1]? = some q → p.2 < q.1
  | [] => ⟨fun _ i p q h _ => by simp at h, fun _ => rfl⟩
  | [x] => ⟨fun _ i p q _ h => by simp at h, fun _ => rfl⟩
  | x :: y :: r => by
    have ih := gapd_iff (l := y :: r)
    constructor
    · intro h i p q hp hq
      unfold gapd at h
      rw [Bool.and_eq_true, decide_eq_true_eq] at h
      cases i with
      | zero => simp at hp hq; subst hp hq; exact h.1
      | succ i => exact ih.mp h.2 i p q (by simpa using hp) (by simpa using hq)
    · intro h
      unfold gapd
      rw [Bool.and_eq_true, decide_eq_true_eq]
      exact ⟨h 0 x y rfl rfl, ih.mpr fun i p q hp hq => h (i + 1) p q (by simpa using hp) (by simpa using hq)⟩
/-- what the first i pairs have, if the list is in one form so far -/
def oneTo (z : Bool) (l : List Pr) (i : Nat) : Prop := ∀ j, j < i → ∀ p, l[j]? = some p → emp z p = false ∧ ∀ k q, j = k + 1 → l[k]? = some q → q.2 < p.1
theorem oneTo_all {z : Bool} {l : List Pr} (h : oneTo z l l.length) : oneF z l = true := by
  unfold oneF
  rw [Bool.and_eq_true, List.all_eq_true]
  constructor
  · intro p hp
    obtain ⟨j, hj⟩ := List.mem_iff_getElem?.mp hp
    have hlt : j < l.length := by
      obtain ⟨h1, _⟩ := List.getElem?_eq_some_iff.mp hj
      exact h1
    rw [(h j hlt p hj).1]; rfl
  · refine gapd_iff.mpr fun i p q hp hq => ?_
    have hlt : i + 1 < l.length := by
      obtain ⟨h1, _⟩ := List.getElem?_eq_some_iff.mp hq
      exact h1
    exact (h (i + 1) hlt q hq).2 i p rfl hp
theorem oneF_empty {z : Bool} {l : List Pr} {i : Nat} {p : Pr} (hp : l[i]? = some p) (e : emp z p = true) : oneF z l = false := by
  rw [← Bool.not_eq_true]
  intro h
  unfold oneF at h
  rw [Bool.and_eq_true, List.all_eq_true] at h
  have := h.1 p (List.mem_of_getElem? hp)
  rw [e] at this
  cases this
theorem oneF_gap {z : Bool} {l : List Pr} {i : Nat} {p q : Pr} (hp : l[i]? = some p) (hq : l[i + 1]? = some q) (e : ¬ p.2 < q.1) : oneF z l = false := by
  rw [← Bool.not_eq_true]
  intro h
  unfold oneF at h
  rw [Bool.and_eq_true] at h
  exact e (gapd_iff.mp h.2 i p q hp hq)
theorem oneTo_more {z : Bool} {l : List Pr} {i : Nat} {p : Pr} (h : oneTo z l i) (hp : l[i]? = some p) (e : emp z p = false) (g : ∀ k q, i = k + 1 → l[k]? = some q → q.2 < p.1) : oneTo z l (i + 1) := by
  intro j hj x hx
  by_cases c : j < i
  · exact h j c x hx
  · obtain rfl : j = i := by omega
    obtain rfl : p = x := Option.some.inj (hp.symm.trans hx)
    exact ⟨e, g⟩
theorem emp_half {p : Pr} (h : p.1 ≤ p.2) : emp false p = decide (p.1 = p.2) := by
  show decide (p.2 ≤ p.1) = decide (p.1 = p.2)
  rw [decide_eq_decide]; omega
theorem emp_shut {p : Pr} (h : p.1 ≤ p.2) : emp true p = false := by
  show decide (p.2 < p.1) = false
  rw [decide_eq_false_iff_not]; omega
end Spk
namespace Spk
open PySem PySem.Spec PyProof.Rows L2
theorem mulB {x f F : Int} (h1 : -1 ≤ x) (h2 : x ≤ 6) (f0 : 0 ≤ f) (fF : f ≤ F) : -F ≤ x * f ∧ x * f ≤ 6 * F := by
  have : x = -1 ∨ x = 0 ∨ x = 1 ∨ x = 2 ∨ x = 3 ∨ x = 4 ∨ x = 5 ∨ x = 6 := by omega
  rcases this with h | h | h | h | h | h | h | h <;> subst h <;> omega
theorem rowStep {f at' X Y : Int} {i : Nat} (f1 : 1 ≤ f) (f2 : f ≤ 200000000000000000001) (hi : i < 21) (x1 : -1 ≤ X) (x2 : X ≤ 3) (y1 : 0 ≤ Y) (y2 : Y ≤ 3)
    (a1 : -(200000000000000000001 * (20 + 6 * (i : Int))) ≤ at') (a2 : at' ≤ 200000000000000000001 * (20 + 6 * (i : Int))) :
    (-1000000000000000000000000000000 ≤ at' + X * f ∧ at' + X * f ≤ at' + (X + Y) * f ∧ at' + (X + Y) * f ≤ 1000000000000000000000000000000) ∧
      (-(200000000000000000001 * (20 + 6 * (((i + 1 : Nat) : Nat) : Int))) ≤ at' + (X + Y) * f ∧ at' + (X + Y) * f ≤ 200000000000000000001 * (20 + 6 * (((i + 1 : Nat) : Nat) : Int))) := by
  obtain ⟨p1, p2⟩ := mulB (x := X) (f := f) (F := 200000000000000000001) (by omega) (by omega) (by omega) f2
  obtain ⟨q1, q2⟩ := mulB (x := X + Y) (f := f) (F := 200000000000000000001) (by omega) (by omega) (by omega) f2
  have e : (X + Y) * f = X * f + Y * f := Int.add_mul X Y f
  have y0 : 0 ≤ Y * f := Int.mul_nonneg y1 (by omega)
  generalize (X + Y) * f = w at *
  generalize X * f = u at *
  generalize Y * f = v at *
  omega
theorem strP_of {b e : Int} (h1 : -1000000000000000000000000000000 ≤ b) (h2 : b ≤ e) (h3 : e ≤ 1000000000000000000000000000000) : strP (b, e) = true := by
  unfold strP edgeI
  simp only [Bool.and_eq_true, Bool.or_eq_true, decide_eq_true_eq]
  omega
theorem strP_first {p : Pr} (h : strP p = true) : strP (-10000000000000000000000000000000, p.2) = true := by
  obtain ⟨a, b⟩ := p
  unfold strP edgeI at h ⊢
  simp only [Bool.and_eq_true, Bool.or_eq_true, decide_eq_true_eq] at h ⊢
  simp only [Int.reduceNeg, Int.reduceLE, Int.reduceLT, Int.reduceEq, true_and, and_true, true_or, or_true, false_or, or_false, false_and, and_false]
  omega
theorem strP_last {p : Pr} (h : strP p = true) : strP (p.1, 10000000000000000000000000000000) = true := by
  obtain ⟨a, b⟩ := p
  unfold strP edgeI at h ⊢
  simp only [Bool.and_eq_true, Bool.or_eq_true, decide_eq_true_eq] at h ⊢
  simp only [Int.reduceNeg, Int.reduceLE, Int.reduceLT, Int.reduceEq, true_and, and_true, true_or, or_true, false_or, or_false, false_and, and_false]
  omega
theorem set_good {l : List Pr} {i : Nat} {p : Pr} (h : ∀ x ∈ l, strP x = true) (hp : strP p = true) : ∀ x ∈ l.set i p, strP x = true := fun x hx => by
  rcases List.mem_or_eq_of_mem_set hx with h1 | h1
  · exact h x h1
  · exact h1 ▸ hp
theorem shapedNil : SeqAt.shaped (.list []) = true := shapedPs []
theorem eqvNil (ps : List Pr) : PyData.eqv (.list (ps.map prD)) (.list []) = decide (ps = []) := eqvPs ps []
end Spk
namespace Spk
open PySem PySem.Spec PyProof.Rows L2
theorem ixN_nat {n j : Nat} {i : Int} (e : i = (j : Int)) (h : j < n) : ixN n i = some j := by
  subst e
  unfold ixN
  rw [if_pos (Int.natCast_nonneg j), if_pos (Int.ofNat_lt.mpr h)]
  simp
theorem ixN_last {n : Nat} (h : 0 < n) : ixN n (-1) = some (n - 1) := by
  unfold ixN
  rw [if_neg (by decide), if_pos (by omega)]
  congr 1
  omega
theorem at_last {ts : List Addr} {t : Addr} (h : ts[ts.length - 1]? = some t) : atI (ts.map V.ref) (-1) = some (.ref t) := by
  have hl : ts.length - 1 < ts.length := (List.getElem?_eq_some_iff.mp h).1
  unfold atI
  rw [ixN_last (by rw [List.length_map]; omega)]
  show (ts.map V.ref)[(ts.map V.ref).length - 1]? = some (.ref t)
  rw [List.length_map, List.getElem?_map, h]; rfl
theorem at_ref {ts : List Addr} {t : Addr} {j : Nat} {i : Int} (e : i = (j : Int)) (h : ts[j]? = some t) : atI (ts.map V.ref) i = some (.ref t) :=
  at_of e (by rw [List.getElem?_map, h]; rfl)
theorem refs_set {ts : List Addr} {j : Nat} {t : Addr} : (ts.map V.ref).set j (.ref t) = (ts.set j t).map V.ref := by
  rw [List.map_set]
end Spk
namespace Spk
open PySem PySem.Spec PyProof.Rows L2
theorem reprB (b : Bool) : (PyData.bool b).showable = true ∧ (PyData.bool b).hasDict = false ∧ (PyData.bool b).depth ≤ 64 ∧ (PyData.bool b).shown.length ≤ sizeLine := by
  cases b <;> decide +kernel
theorem reprBB (b : Bool) : (PyData.list [.bool b, .bool b]).showable = true ∧ (PyData.list [.bool b, .bool b]).hasDict = false ∧ (PyData.list [.bool b, .bool b]).depth ≤ 64 ∧ (PyData.list [.bool b, .bool b]).shown.length ≤ sizeLine := by
  cases b <;> decide +kernel
theorem mode_of {j : Nat} {x : V} (h : ([.str "half", .str "shut"] : List V)[j]? = some x) : ∃ z, x = endsV z := by
  match j, h with
  | 0, h => exact ⟨false, (Option.some.inj h).symm⟩
  | 1, h => exact ⟨true, (Option.some.inj h).symm⟩
theorem pd_nil {H : Hp} {us : List Addr} (h : Pd H us []) : us = [] := by
  cases us with
  | nil => rfl
  | cons _ _ => exact h.elim
/-- behind a bag and what is drawn with it all that was tracked ahead is as it was -/
theorem bag_same {p : Addr} {H H1 H2 : Hp} (np : H p = none) (a : But p H H1) (b : Kp p H1 H2) : Same H H2 := fun c o h =>
  b c o (ne_of_none h np) ((a c (ne_of_none h np)).trans h)
theorem union_eqv {z : Bool} {ps : List Pr} (h : ∀ p ∈ ps, strP p = true) : PyData.eqv (.list ((unionM z ps).map prD)) (.list (ps.map prD)) = oneF z ps := by
  rw [eqvPs, Bool.eq_iff_iff, decide_eq_true_eq]
  exact union_fix fun p hp => strP_le (h p hp)
end Spk
namespace Spk
open PySem PySem.Spec PyProof.Rows L2
theorem cut_to {us : List Addr} {i : Int} {n : Nat} (e : i = (n : Int)) : cutV (us.map V.ref) none (some i) = (us.take n).map V.ref := by
  subst e
  unfold cutV
  rw [HT.sIx_none, HT.sIx_nat, List.drop_zero, Nat.sub_zero, List.map_take, List.length_map]
  by_cases h : n ≤ us.length
  · rw [Nat.min_eq_left h]
  · rw [Nat.min_eq_right (by omega), List.take_of_length_le (by rw [List.length_map]; omega), List.take_of_length_le (by rw [List.length_map]; omega)]
theorem cut_from {us : List Addr} {i : Int} {n : Nat} (e : i = (n : Int)) : cutV (us.map V.ref) (some i) none = (us.drop n).map V.ref := by
  subst e
  unfold cutV
  rw [HT.sIx_none, HT.sIx_nat, List.map_drop, List.length_map]
  by_cases h : n ≤ us.length
  · rw [Nat.min_eq_left h]
    exact List.take_of_length_le (by rw [List.length_drop, List.length_map]; omega)
  · rw [Nat.min_eq_right (by omega), List.drop_of_length_le (by rw [List.length_map]; omega), List.drop_of_length_le (by rw [List.length_map]; omega), List.take_nil]
theorem Pd.take {H : Hp} : ∀ {ts : List Addr} {ps : List Pr} (n : Nat), Pd H ts ps → Pd H (ts.take n) (ps.take n)
  | [], [], _, _ => by simp [Pd]
  | t :: ts, p :: ps, 0, _ => by simp [Pd]
  | t :: ts, p :: ps, n + 1, h => ⟨h.1, Pd.take n h.2⟩
  | [], _ :: _, _, h => h.elim
  | _ :: _, [], _, h => h.elim
theorem Pd.drop {H : Hp} : ∀ {ts : List Addr} {ps : List Pr} (n : Nat), Pd H ts ps → Pd H (ts.drop n) (ps.drop n)
  | [], [], _, _ => by simp [Pd]
  | t :: ts, p :: ps, 0, h => h
  | t :: ts, p :: ps, n + 1, h => Pd.drop n h.2
  | [], _ :: _, _, h => h.elim
  | _ :: _, [], _, h => h.elim
theorem bag_not_refs {H : Hp} {p s : Addr} {c : Int} {ts : List Addr} (bg : BagAt H p c) (h : H s = some (.lst (ts.map V.ref))) : s ≠ p := by
  rintro rfl
  obtain ⟨b0, b1, b2, b3, e, _⟩ := bg
  rw [e] at h
  have h := HO.lst.inj (Option.some.inj h)
  cases ts with
  | nil => cases h
  | cons t ts => exact V.noConfusion (List.cons.inj h).1
theorem bag_not_tup {H : Hp} {p t : Addr} {c : Int} {xs : List V} (bg : BagAt H p c) (h : H t = some (.tup xs)) : t ≠ p := by
  rintro rfl
  obtain ⟨b0, b1, b2, b3, e, _⟩ := bg
  rw [e] at h; cases h
theorem bag_kp {H H' : Hp} {p q : Addr} {c : Int} (bg : BagAt H p c) (k : Kp q H H') (n : p ≠ q) : BagAt H' p c := by
  obtain ⟨b0, b1, b2, b3, e, r⟩ := bg
  exact ⟨b0, b1, b2, b3, k _ _ n e, r⟩
end Spk
namespace Spk
open PySem PySem.Spec PyProof.Rows L2
theorem strP_cutR {b : Pr} {c : Int} (h : strP b = true) (h1 : b.1 ≤ c) (h2 : c ≤ b.2) (h3 : -1000000000000000000000000000000 ≤ c) (h4 : c ≤ 1000000000000000000000000000000) : strP (c, b.2) = true := by
  unfold strP edgeI at *
  simp only [Bool.and_eq_true, Bool.or_eq_true, decide_eq_true_eq] at *
  omega
theorem strP_cutL {b : Pr} {c : Int} (h : strP b = true) (h1 : b.1 ≤ c) (h2 : c ≤ b.2) (h3 : -1000000000000000000000000000000 ≤ c) (h4 : c ≤ 1000000000000000000000000000000) : strP (b.1, c) = true := by
  unfold strP edgeI at *
  simp only [Bool.and_eq_true, Bool.or_eq_true, decide_eq_true_eq] at *
  omega
end Spk
namespace Spk
open PySem PySem.Spec PyProof.Rows L2
theorem strP_ext {c p : Pr} (h : strP c = true) (k : strP p = true) (e : c.2 < p.2) : strP (c.1, p.2) = true := by
  unfold strP edgeI at *
  simp only [Bool.and_eq_true, Bool.or_eq_true, decide_eq_true_eq] at *
  omega
end Spk

namespace Spk
open PySem PySem.Spec PyProof.Rows L2
theorem chr_lt (c : Char) : c.toNat < 0x110000 := by
  have h := c.valid
  show c.val.toNat < 0x110000
  rcases h with h | h
  · have : c.val.toNat < 0xd800 := h
    omega
  · exact h.2
theorem ofS_ok (s : String) : PyData.canLay0 (.str (Str.ofString s)) = true := by
  show (Str.ofString s).cps.all (· < 0x110000) = true
  rw [PySem.Str.ofString_eq_toList]
  show (s.toList.map Char.toNat).toArray.all (· < 0x110000) = true
  rw [List.all_toArray, List.all_eq_true]
  intro n hn
  obtain ⟨c, _, rfl⟩ := List.mem_map.mp hn
  exact decide_eq_true (chr_lt c)
/-! ### objects that may be shown and compared -/
structure OkD (d : PyData) : Prop where
  sh : d.showable = true
  nd : d.hasDict = false
  dp : d.depth ≤ 60
  ln : d.shown.length ≤ sizeLine
  ok : PyData.canLay0 d = true
  st : PyData.canLay0 (.str d.shown) = true
theorem OkD.shaped {d : PyData} (h : OkD d) : SeqAt.shaped d = true := by
  unfold SeqAt.shaped
  rw [h.ok, decide_eq_true (Nat.le_trans h.dp (by decide))]; rfl
theorem okD_int {i : Int} (h : i.natAbs.log2 < 1920) : OkD (.int i) where
  sh := by simpa [PyData.showable] using h
  nd := rfl
  dp := Nat.zero_le _
  ln := by rw [PyData.shown_int]; exact int_text_fits h
  ok := rfl
  st := by
    rw [PyData.shown_int]
    exact ofS_ok _
theorem log_of {i : Int} (h : -1000000000000000000000000000000000000000000000 ≤ i) (h2 : i ≤ 1000000000000000000000000000000000000000000000) : i.natAbs.log2 < 1920 :=
  Nat.lt_of_lt_of_le (PySem.Flt.log2_lt_of (k := 200) (by decide) (by omega)) (by decide)
theorem okD_bool (b : Bool) : OkD (.bool b) := by cases b <;> exact ⟨by decide +kernel, by decide +kernel, by decide +kernel, by decide +kernel, by decide +kernel, by decide +kernel⟩
theorem okD_none : OkD .none := ⟨by decide +kernel, by decide +kernel, by decide +kernel, by decide +kernel, by decide +kernel, by decide +kernel⟩
end Spk
namespace Spk
open PySem PySem.Spec PyProof.Rows L2
def rNotInT (K : PySem.W.Frag) : R2 := fun x y H Q => ∃ d ds, Dp K H x d ∧ Dp K H y (.tuple ds) ∧ SeqAt.shaped d = true ∧ PyData.canLayAll0 ds = true ∧ Q (.bl (!ds.any fun z => PyData.eqv z d)) H
section
variable {X : Cx}
theorem op_notInT (hu : X.A.units + 65 < cLine) : OpR X (compareOp .NotIn) (rNotInT X.K) := by
  intro pins s σ H x y v u Q I rx ry h
  obtain ⟨d, ds, hd, he, sd, se, q⟩ := h
  obtain ⟨as, r1⟩ := Dp.reads I d x v hd rx
  obtain ⟨bs, r2⟩ := Dp.reads I (.tuple ds) y u he ry
  exact SeqAt.notIn_tuple_reads r2 r1 se (SeqAt.canLay_of_shaped sd) (room_in_shaped sd hu) ⟨.bl _, H, I, rfl, q⟩
end
/-! ### a def that may raise, ready to be called -/
structure RdyX (P : Program) (w : World) (K : PySem.W.Frag) (mg : Str → Option Value) (bh : Heap) (x : Str) (k : Nat) (ps : List Str) (sp : Sp) (f : Addr) (fd : FuncData) : Prop where
  ok : FnOk P w K mg bh (L2.CX P w) k f fd ps sp
  gl : mg x = some (.ref f)
  kp : PySem.W.keepIn K (.ref f) = true
  bd : Binds K fd ps []
structure RdyXD (P : Program) (w : World) (K : PySem.W.Frag) (mg : Str → Option Value) (bh : Heap) (x : Str) (k : Nat) (ps : List Str) (dvs : List V) (sp : Sp) (f : Addr) (fd : FuncData) : Prop where
  ok : FnOk P w K mg bh (L2.CX P w) k f fd ps sp
  gl : mg x = some (.ref f)
  kp : PySem.W.keepIn K (.ref f) = true
  bd : Binds K fd ps []
  bd1 : ∃ ds, Vals dvs ds ∧ Binds K fd ps ds
section
variable {X : Cx} {x : Str} {k j : Nat} {ps : List Str} {dvs : List V} {sp : Sp} {f : Addr} {fd : FuncData} {p pos : Pos} {e : Expr} {es : List Expr} {t : TA} {E : XK}
/-- f(e, ..) in a def that lets f's errors out -/
theorem pe_rdyX (R : RdyX X.prog X.w X.K X.mg X.base x k ps sp f fd) (rm : Room j X.A) (hj : k ≤ j) (hg : Gl X x) (tk : Takes X (fun cls d _ H => E cls d H)) (ha : PA X (e :: es) t) (hdb : (x == ("__debug__" : Str)) = false := by decide)
    (he : starEach (e :: es) X.env = (false, eval e X.env) :: starEach es X.env := by rfl) (hpl : (backTo pos (starEach es X.env)).any (·.1) = false := by rfl) :
    PE X (.Call (.Name x p) (e :: es) [] pos) (tCall sp [] E t) := pe_call R.ok (rm.mono hj) hg R.gl R.kp R.bd .nil (passes_call tk fun _ _ _ _ h => h) ha hdb he hpl
end
end Spk
namespace Spk
open PySem PySem.Spec PyProof.Rows L2
def isMom : PyData → Bool
  | .int i => decide (-10000000000000000000000000000000 < i) && decide (i < 10000000000000000000000000000000)
  | _ => false
theorem isMom_not {d : PyData} (h : ¬ isNum d = true) : isMom d = false := by
  cases d with
  | int _ => exact absurd rfl h
  | _ => rfl
def isEnds : PyData → Bool
  | .str x => x == "half" || x == "shut"
  | _ => false
theorem ends_any (d : PyData) : (!([.str "half", .str "shut"] : List PyData).any fun z => PyData.eqv z d) = !isEnds d := by
  congr 1
  cases d with
  | str x =>
    show (((Str.ofString "half" : Str) == x) || (((Str.ofString "shut" : Str) == x) || false)) = ((x == Str.ofString "half") || (x == Str.ofString "shut"))
    rw [Bool.or_false, Bool.beq_comm (a := (Str.ofString "half")), Bool.beq_comm (a := (Str.ofString "shut"))]
  | _ => rfl
end Spk
namespace Spk
open PySem PySem.Spec PyProof.Rows L2
def holdsB (z : Bool) (p : Pr) (i : Int) : Bool := decide (p.1 ≤ i) && (if z then decide (i ≤ p.2) else decide (i < p.2))
theorem ends_of {K : PySem.W.Frag} {H : Hp} {w : V} {g : PyData} (h : Dp K H w g) (e : isEnds g = true) : ∃ z, w = endsV z := by
  cases h with
  | str x =>
    have e : (x == (Str.ofString "half") || x == (Str.ofString "shut")) = true := e
    rw [Bool.or_eq_true] at e
    rcases e with e | e
    · exact ⟨false, by rw [beq_iff_eq.mp e]; rfl⟩
    · exact ⟨true, by rw [beq_iff_eq.mp e]; rfl⟩
  | _ => cases e
def endsD (z : Bool) : PyData := if z then .str "shut" else .str "half"
theorem dp_ends {K : PySem.W.Frag} {H : Hp} (z : Bool) : Dp K H (endsV z) (endsD z) := by cases z <;> exact .str _
theorem ok_ends (z : Bool) : OkD (endsD z) := by cases z <;> exact ⟨by decide +kernel, by decide +kernel, by decide +kernel, by decide +kernel, by decide +kernel, by decide +kernel⟩
theorem isEnds_endsD (z : Bool) : isEnds (endsD z) = true := by cases z <;> decide +kernel
theorem kitStr (d : PyData) : kitB (tyN d) "str" = some (match d with | .str _ => true | _ => false) := by cases d <;> simp only [tyN] <;> decide +kernel
end Spk
namespace Spk
open PySem PySem.Spec PyProof.Rows L2
/-! ### calls within a try's body -/
section
variable {X : Cx} {CX' : CXT} {k j : Nat} {f : Addr} {fd : FuncData} {ps ks : List Str} {sp : Sp} {x : Str} {p pos : Pos} {kws : List Keyword} {tk : TA} {g : List Value → List Value → List Value} {gV : List V → List V → List V} {E : L2.St → XK}
/-- f(k = v, ..) without a positional argument, what it raises wished for at the slots -/
theorem pe_kw0S (F : FnOk X.prog X.w X.K X.mg X.base CX' k f fd ps sp) (rm : Room j X.A) (hj : k ≤ j) (hg : Gl X x) (hm : X.mg x = some (.ref f)) (hk : PySem.W.keepIn X.K (.ref f) = true) (hb : KBn X.K fd ps 0 ks g gV) (hx : ∀ σ, PassesAt CX' X σ (E σ)) (hkw : PK X kws tk)
    (hall : (backToKw pos (keywordEach kws X.env)).all (·.1.isSome) = true := by rfl) (hks : (backToKw pos (keywordEach kws X.env)).filterMap (·.1) = ks := by rfl) (hdb : (x == ("__debug__" : Str)) = false := by decide)
    (hpl : ((backTo pos (starEach [] X.env)).any (·.1) || (backToKw pos (keywordEach kws X.env)).any (·.1.isNone)) = false := by rfl) :
    PE X (.Call (.Name x p) [] kws pos) (fun σ H Q => tk σ H fun zs H2 => zs.length = ks.length ∧ sp (gV [] zs) H2 Q (E σ)) := by
  refine ⟨fun pins s σ H Q I h => wpAny_Call_Name_kw (ld_glob I hg hm ?_ hdb)⟩
  refine PySem.W.callWith_KW0 (h₀ := X.base) I.ok.mod.kin hk hall (thn (hkw.run pos pins s σ H _ I h) fun ws s2 hh => ?_) hpl
  obtain ⟨zs, H2, I2, rz, l2, q2⟩ := hh
  refine ⟨I2.kIn, ?_⟩
  rw [hks]
  have r2 := hb.rel (vs := []) (us := []) .nil rz
  refine wpAny_call (codeAny_mono (F.run X.A X.stack s2 H2 ⟨[], ks.zip ws⟩ (g [] ws) (gV [] zs) Q (E σ) (rm.mono hj) I2.env0 (hb.to s2 [] ws I2.kIn rfl (rz.length.symm.trans l2)) r2 q2) fun r s' hq => ?_)
  match r, hq with
  | .error e, hq => exact hx σ pins H2 s2 e s' I2 hq
  | .ok (.ret u), hq => exact I2.after hq
/-- repr, the room told by its units (within an except suite too) -/
theorem call_reprU (gd : X.A.guards = some []) (hu0 : X.A.units + 66 < cLine) : CallR X (.builtin "repr") (rRepr X.K) := by
  intro pins s σ J xs us R I r h
  obtain ⟨y, d, rfl, dp, hs, hnd, hdep, hz, q⟩ := h
  have hu : X.A.units + (d.depth + 1) < cLine := by omega
  obtain ⟨u, rfl, ru⟩ := vals1 r
  obtain ⟨as, rd⟩ := Dp.reads I d y u dp ru
  have fin : ∀ h' tk, (∀ b o, s.heap.get? b = some o → h'.get? b = some o) → ∀ t, EP X pins σ R (.str d.shown t) { s with heap := h', toks := tk } := fun h' tk hk t =>
    ⟨.str d.shown, J, I.kept (t' := tk) hk, ⟨t, rfl⟩, q⟩
  have here := fin s.heap (s.toks + 1) (fun _ _ z => z) s.toks
  cases dp with
  | non =>
    obtain rfl : u = Value.none := ru
    exact PySem.P.repr_of_none (by simpa only [PyData.shown_none] using here)
  | bl b =>
    obtain rfl : u = Value.bool b := ru
    refine PySem.P.repr_of_bool ?_
    simp only [PyData.shown_bool] at here
    cases b <;> exact here
  | int i =>
    obtain ⟨t, rfl⟩ := ru
    exact PySem.P.repr_of_int (by simpa [PyData.showable] using hs) (by simpa only [PyData.shown_int] using here)
  | str z =>
    obtain ⟨t, rfl⟩ := ru
    exact PySem.P.repr_of_str (by simpa only [PyData.shown_str] using here) (by simpa only [PyData.shown_str] using hz)
  | lst sq da =>
    obtain rfl := (show u = Value.ref _ from ru)
    exact repr_of_reads' rd hs (fun z => absurd z (by rw [hnd]; decide)) gd hu (fun _ _ z => z) (fun h' t tk hk => fin h' tk hk t) hz
  | tup sq da =>
    obtain rfl := (show u = Value.ref _ from ru)
    exact repr_of_reads' rd hs (fun z => absurd z (by rw [hnd]; decide)) gd hu (fun _ _ z => z) (fun h' t tk hk => fin h' tk hk t) hz
end
end Spk

namespace Spk
open PySem PySem.Spec PyProof.Rows L2
/-! ### small objects, lists of them -/
structure Sm (d : PyData) : Prop where
  sh : d.showable = true
  nd : d.hasDict = false
  dp : d.depth ≤ 6
  lf : d.leavesShort 60 = true
  bk : d.bulk ≤ 50
  ok : PyData.canLay0 d = true
theorem Sm.len {d : PyData} (h : Sm d) : d.shown.length ≤ sizeLine := by
  have := PyData.shown_le_bulk 60 (by decide) d h.lf
  have := h.bk
  rw [sizeLine_eq]; omega
theorem Sm.okD {d : PyData} (h : Sm d) (st : PyData.canLay0 (.str d.shown) = true) : OkD d := ⟨h.sh, h.nd, Nat.le_trans h.dp (by decide), h.len, h.ok, st⟩
theorem int_short {i : Int} (h : i.natAbs < 10 ^ 45) : (PyData.shown (.int i)).length ≤ 60 := by
  rw [PyData.shown_int, PySem.ofString_length]
  have := int_text_length_le10 (k := 45) (by decide) h
  omega
theorem sm_int {i : Int} (h1 : -1000000000000000000000000000000000000000000000 < i) (h2 : i < 1000000000000000000000000000000000000000000000) : Sm (.int i) where
  sh := by
    have : i.natAbs.log2 < 1920 := log_of (by omega) (by omega)
    simpa [PyData.showable] using this
  nd := rfl
  dp := Nat.zero_le _
  lf := by
    have := int_short (i := i) (by omega)
    simpa [PyData.leavesShort] using this
  bk := Nat.zero_le _
  ok := rfl
structure SmAll (ds : List PyData) (n b : Nat) : Prop where
  sh : PyData.showableAll ds = true
  nd : PyData.hasDictAll ds = false
  dp : PyData.depthAll ds ≤ n
  lf : PyData.leavesShortAll 60 ds = true
  bk : PyData.bulkAll ds ≤ b
  ok : PyData.canLayAll0 ds = true
theorem smA_nil {n : Nat} : SmAll [] n 0 := ⟨rfl, rfl, Nat.zero_le _, rfl, Nat.le_refl _, rfl⟩
theorem smA_cons {d : PyData} {ds : List PyData} {n b k : Nat} (h : Sm d) (hd : d.depth ≤ n) (hb : d.bulk ≤ k) (t : SmAll ds n b) : SmAll (d :: ds) n (k + 1 + b) where
  sh := by simp only [PyData.showableAll, h.sh, t.sh]; rfl
  nd := by simp only [PyData.hasDictAll, h.nd, t.nd]; rfl
  dp := by simp only [PyData.depthAll]; exact Nat.max_le.mpr ⟨hd, t.dp⟩
  lf := by simp only [PyData.leavesShortAll, h.lf, t.lf]; rfl
  bk := by simp only [PyData.bulkAll]; have := t.bk; omega
  ok := by simp only [PyData.canLayAll0, h.ok, t.ok]; rfl
theorem sm_tup {ds : List PyData} {n b : Nat} (t : SmAll ds n b) (hn : n ≤ 5) (hb : b ≤ 50) : Sm (.tuple ds) where
  sh := by simp only [PyData.showable]; exact t.sh
  nd := by simp only [PyData.hasDict]; exact t.nd
  dp := by simp only [PyData.depth]; have := t.dp; omega
  lf := by simp only [PyData.leavesShort]; exact t.lf
  bk := by simp only [PyData.bulk]; have := t.bk; omega
  ok := by simp only [PyData.canLay0]; exact t.ok
theorem sm_lst {ds : List PyData} {n b : Nat} (t : SmAll ds n b) (hn : n ≤ 5) (hb : b ≤ 50) : Sm (.list ds) where
  sh := by simp only [PyData.showable]; exact t.sh
  nd := by simp only [PyData.hasDict]; exact t.nd
  dp := by simp only [PyData.depth]; have := t.dp; omega
  lf := by simp only [PyData.leavesShort]; exact t.lf
  bk := by simp only [PyData.bulk]; have := t.bk; omega
  ok := by simp only [PyData.canLay0]; exact t.ok
/-- a list of small objects may be shown -/
theorem smA_of {ds : List PyData} (h : ∀ d ∈ ds, Sm d) : SmAll ds 6 (51 * ds.length) := by
  induction ds with
  | nil => exact smA_nil
  | cons d ds ih =>
    have h1 := h d List.mem_cons_self
    have := smA_cons h1 h1.dp h1.bk (ih fun x hx => h x (List.mem_cons_of_mem _ hx))
    refine ⟨this.sh, this.nd, this.dp, this.lf, ?_, this.ok⟩
    have := this.bk
    rw [List.length_cons]; omega
theorem rows_len {ds : List PyData} (h : ∀ d ∈ ds, Sm d) (hl : ds.length ≤ 3000) : (PyData.list ds).showable = true ∧ (PyData.list ds).hasDict = false ∧ (PyData.list ds).depth ≤ 64 ∧ (PyData.list ds).shown.length ≤ sizeLine := by
  have t := smA_of h
  refine ⟨by simp only [PyData.showable]; exact t.sh, by simp only [PyData.hasDict]; exact t.nd, by simp only [PyData.depth]; have := t.dp; omega, ?_⟩
  have := PyData.shown_le_bulk 60 (by decide) (.list ds) (by simp only [PyData.leavesShort]; exact t.lf)
  have h2 := t.bk
  have e : (PyData.list ds).bulk = PyData.bulkAll ds := rfl
  rw [e] at this
  rw [sizeLine_eq]; omega
theorem Sm.shaped {d : PyData} (h : Sm d) : SeqAt.shaped d = true := by
  unfold SeqAt.shaped
  rw [h.ok, decide_eq_true (Nat.le_trans h.dp (by decide))]; rfl
end Spk

namespace Spk
/-! ### what a list of pairs covers, on a doubled line: (b, e) covers 2b .. 2e - 1, and 2e too if ends are shut -/
def covP (z : Bool) (p : Pr) (m : Int) : Prop := 2 * p.1 ≤ m ∧ m < 2 * p.2 + (if z then 1 else 0)
def cov (z : Bool) (l : List Pr) (m : Int) : Prop := ∃ p ∈ l, covP z p m
theorem cov_nil {z : Bool} {m : Int} : ¬ cov z [] m := fun ⟨_, h, _⟩ => by simp at h
theorem cov_cons {z : Bool} {p : Pr} {l : List Pr} {m : Int} : cov z (p :: l) m ↔ covP z p m ∨ cov z l m := by
  unfold cov; simp
theorem cov_app {z : Bool} {l k : List Pr} {m : Int} : cov z (l ++ k) m ↔ cov z l m ∨ cov z k m := by
  induction l with
  | nil => simp [cov_nil]
  | cons p r ih => rw [List.cons_append, cov_cons, cov_cons, ih, or_assoc]
theorem cov_perm {z : Bool} {l k : List Pr} (h : l.Perm k) {m : Int} : cov z l m ↔ cov z k m :=
  ⟨fun ⟨p, hp, c⟩ => ⟨p, h.mem_iff.mp hp, c⟩, fun ⟨p, hp, c⟩ => ⟨p, h.mem_iff.mpr hp, c⟩⟩
theorem emp_cov {z : Bool} {p : Pr} (h : emp z p = true) (m : Int) : ¬ covP z p m := by
  unfold emp at h; unfold covP
  cases z <;> simp at h ⊢ <;> omega
theorem full_cov {z : Bool} {p : Pr} (h : emp z p = false) : covP z p (2 * p.1) := by
  unfold emp at h; unfold covP
  cases z <;> simp at h ⊢ <;> omega
theorem cov_filter {z : Bool} {l : List Pr} {m : Int} : cov z (l.filter fun p => !emp z p) m ↔ cov z l m := by
  constructor
  · rintro ⟨p, hp, c⟩
    exact ⟨p, (List.mem_filter.mp hp).1, c⟩
  · rintro ⟨p, hp, c⟩
    refine ⟨p, List.mem_filter.mpr ⟨hp, ?_⟩, c⟩
    cases e : emp z p with
    | true => exact absurd c (emp_cov e m)
    | false => rfl
theorem cov_merge {z : Bool} {c p : Pr} (h1 : c.1 ≤ p.1) (h2 : p.1 ≤ c.2) {m : Int} : covP z (c.1, if c.2 < p.2 then p.2 else c.2) m ↔ covP z c m ∨ covP z p m := by
  unfold covP
  cases z <;> simp <;> split <;> omega
theorem cov_joinG {z : Bool} : ∀ (l : List Pr) (c : Pr), (∀ p ∈ l, c.1 ≤ p.1) → l.Pairwise ple → ∀ m, cov z (joinG c l) m ↔ covP z c m ∨ cov z l m
  | [], c, _, _, m => by simp [joinG, cov_cons, cov_nil]
  | p :: r, c, h, hs, m => by
    have hs' := List.pairwise_cons.mp hs
    have hle : ∀ q ∈ r, p.1 ≤ q.1 := fun q hq => by have := hs'.1 q hq; unfold ple at this; omega
    unfold joinG
    split
    · rw [cov_cons, cov_joinG r p hle hs'.2 m, cov_cons]
    · rename_i hn
      rw [cov_joinG r (c.1, if c.2 < p.2 then p.2 else c.2) (fun q hq => h q (by simp [hq])) hs'.2 m, cov_merge (h p (by simp)) (by omega), cov_cons, or_assoc]
theorem cov_joinM {z : Bool} {l : List Pr} (hs : l.Pairwise ple) (m : Int) : cov z (joinM l) m ↔ cov z l m := by
  cases l with
  | nil => rfl
  | cons p r =>
    have hs' := List.pairwise_cons.mp hs
    have hle : ∀ q ∈ p :: r, p.1 ≤ q.1 := fun q hq => by
      rcases List.mem_cons.mp hq with e | hq
      · rw [e]; exact Int.le_refl _
      · have := hs'.1 q hq; unfold ple at this; omega
    show cov z (joinG p (p :: r)) m ↔ _
    rw [cov_joinG (p :: r) p hle hs m, cov_cons]
    exact ⟨fun h => h.elim Or.inl id, Or.inr⟩
/-- the union covers what the list covers -/
theorem cov_union (z : Bool) (l : List Pr) (m : Int) : cov z (unionM z l) m ↔ cov z l m := by
  unfold unionM
  rw [cov_joinM (srt_sorted _), cov_perm (srt_perm _), cov_filter]
theorem union_one (z : Bool) (l : List Pr) : oneF z (unionM z l) = true := by
  unfold unionM
  refine joinM_one fun p hp => ?_
  have := (List.mem_filter.mp ((srt_perm _).mem_iff.mp hp)).2
  simpa using this
theorem oneF_cons {z : Bool} {p : Pr} {l : List Pr} (h : oneF z (p :: l) = true) : emp z p = false ∧ oneF z l = true ∧ gapd (p :: l) = true := by
  unfold oneF at h ⊢
  simp only [List.all_cons, Bool.and_eq_true] at h
  exact ⟨by simpa using h.1.1, by rw [Bool.and_eq_true]; exact ⟨h.1.2, gapd_tail h.2⟩, h.2⟩
theorem emp_le {z : Bool} {p : Pr} (h : emp z p = false) : p.1 ≤ p.2 := by
  unfold emp at h
  cases z <;> simp at h <;> omega
theorem oneF_le {z : Bool} {l : List Pr} (h : oneF z l = true) : ∀ q ∈ l, q.1 ≤ q.2 := fun q hq => by
  unfold oneF at h
  rw [Bool.and_eq_true, List.all_eq_true] at h
  exact emp_le (z := z) (by simpa using h.1 q hq)
/-- what stands behind the first pair of a list in one form lies beyond it -/
theorem cov_beyond {z : Bool} {p : Pr} {l : List Pr} (h : oneF z (p :: l) = true) {m : Int} (c : cov z l m) : 2 * p.2 + 1 < m := by
  obtain ⟨q, hq, c1, c2⟩ := c
  obtain ⟨_, h2, h3⟩ := oneF_cons h
  have := gapd_lt h3 (oneF_le h2) q hq
  omega
/-- a list in one form is told by what it covers -/
theorem one_uniq {z : Bool} : ∀ {l k : List Pr}, oneF z l = true → oneF z k = true → (∀ m, cov z l m ↔ cov z k m) → l = k
  | [], [], _, _, _ => rfl
  | [], q :: k, _, hk, h => absurd ((h (2 * q.1)).mpr (cov_cons.mpr (.inl (full_cov (oneF_cons hk).1)))) cov_nil
  | p :: l, [], hl, _, h => absurd ((h (2 * p.1)).mp (cov_cons.mpr (.inl (full_cov (oneF_cons hl).1)))) cov_nil
  | p :: l, q :: k, hl, hk, h => by
    obtain ⟨p1, p2, p3⟩ := oneF_cons hl
    obtain ⟨q1, q2, q3⟩ := oneF_cons hk
    have lp := emp_le p1
    have lq := emp_le q1
    have at_ : ∀ {p q : Pr} {l k : List Pr}, oneF z (p :: l) = true → oneF z (q :: k) = true → (∀ m, cov z (p :: l) m ↔ cov z (q :: k) m) → q.1 ≤ p.1 := by
      intro p q l k hl hk h
      obtain ⟨p1, _, _⟩ := oneF_cons hl
      obtain ⟨q1, _, _⟩ := oneF_cons hk
      have lq := emp_le q1
      rcases cov_cons.mp ((h (2 * p.1)).mp (cov_cons.mpr (.inl (full_cov p1)))) with c | c
      · have := c.1; omega
      · have := cov_beyond hk c; omega
    have e1 : p.1 = q.1 := by
      have a := at_ hl hk h
      have b := at_ hk hl fun m => (h m).symm
      omega
    have en : ∀ {p q : Pr} {l k : List Pr}, oneF z (p :: l) = true → oneF z (q :: k) = true → (∀ m, cov z (p :: l) m ↔ cov z (q :: k) m) → p.1 = q.1 → q.2 ≤ p.2 := by
      intro p q l k hl hk h e
      obtain ⟨p1, _, _⟩ := oneF_cons hl
      obtain ⟨q1, _, _⟩ := oneF_cons hk
      have lp := emp_le p1
      refine Classical.byContradiction fun hc => ?_
      have hx : cov z (q :: k) (2 * p.2 + 1) := cov_cons.mpr (.inl ⟨by omega, by split <;> omega⟩)
      rcases cov_cons.mp ((h _).mpr hx) with c | c
      · have := c.2
        cases z <;> simp at this
        omega
      · have := cov_beyond hl c; omega
    have e2 : p.2 = q.2 := by
      have a := en hl hk h e1
      have b := en hk hl (fun m => (h m).symm) e1.symm
      omega
    have e : p = q := Prod.ext e1 e2
    subst e
    rw [one_uniq p2 q2 fun m => ?_]
    constructor
    · intro c
      rcases cov_cons.mp ((h m).mp (cov_cons.mpr (.inr c))) with d | d
      · have := cov_beyond hl c
        have := d.2
        cases z <;> simp at this <;> omega
      · exact d
    · intro c
      rcases cov_cons.mp ((h m).mpr (cov_cons.mpr (.inr c))) with d | d
      · have := cov_beyond hk c
        have := d.2
        cases z <;> simp at this <;> omega
      · exact d
/-- two lists have the same union just if they cover the same -/
theorem union_eq_iff {z : Bool} {l k : List Pr} : unionM z l = unionM z k ↔ ∀ m, cov z l m ↔ cov z k m := by
  constructor
  · intro h m
    rw [← cov_union z l m, h, cov_union z k m]
  · intro h
    exact one_uniq (union_one z l) (union_one z k) fun m => by rw [cov_union, cov_union, h m]
/-- the union is a list in one form that covers the same -/
theorem union_is {z : Bool} {l k : List Pr} (hk : oneF z k = true) (h : ∀ m, cov z l m ↔ cov z k m) : unionM z l = k :=
  one_uniq (union_one z l) hk fun m => by rw [cov_union, h m]
end Spk
namespace Spk
theorem covP_cut {z : Bool} {b c e : Int} (h1 : b ≤ c) (h2 : c ≤ e) (m : Int) : covP z (c, e) m ∨ covP z (b, c) m ↔ covP z (b, e) m := by
  unfold covP
  cases z <;> simp <;> omega
theorem covP_sub {z : Bool} {b c d e : Int} (h1 : b ≤ c) (h2 : d ≤ e) {m : Int} (h : covP z (c, d) m) : covP z (b, e) m := by
  unfold covP at *
  cases z <;> simp at h ⊢ <;> omega
theorem cov_mix {z : Bool} (us ws : List Pr) (n : Nat) (m : Int) : cov z (us.take n ++ ws.take 1 ++ us.drop n ++ ws.drop 1) m ↔ cov z us m ∨ cov z ws m := by
  have a : cov z us m ↔ cov z (us.take n) m ∨ cov z (us.drop n) m := by rw [← cov_app, List.take_append_drop]
  have b : cov z ws m ↔ cov z (ws.take 1) m ∨ cov z (ws.drop 1) m := by rw [← cov_app, List.take_append_drop]
  rw [cov_app, cov_app, cov_app, a, b]
  constructor
  · rintro (((h | h) | h) | h)
    · exact .inl (.inl h)
    · exact .inr (.inl h)
    · exact .inl (.inr h)
    · exact .inr (.inr h)
  · rintro ((h | h) | (h | h))
    · exact .inl (.inl (.inl h))
    · exact .inl (.inr h)
    · exact .inl (.inl (.inr h))
    · exact .inr h
theorem cov_take_more {z : Bool} {l : List Pr} {i : Nat} {p : Pr} (h : l[i]? = some p) (m : Int) : cov z (l.take (i + 1)) m ↔ cov z (l.take i) m ∨ covP z p m := by
  rw [List.take_add_one, h, cov_app]
  show _ ∨ cov z [p] m ↔ _
  rw [cov_cons]
  simp [cov_nil]
theorem cov_two {z : Bool} {p q : Pr} {m : Int} : cov z [p, q] m ↔ covP z p m ∨ covP z q m := by
  rw [cov_cons, cov_cons]; simp [cov_nil]
theorem cov_single {z : Bool} {p : Pr} {m : Int} : cov z [p] m ↔ covP z p m := by
  rw [cov_cons]; simp [cov_nil]
end Spk
namespace Spk
theorem gapd_apart : ∀ {l : List Pr}, gapd l = true → (∀ q ∈ l, q.1 ≤ q.2) → ∀ p ∈ l, ∀ q ∈ l, p = q ∨ p.2 < q.1 ∨ q.2 < p.1
  | [], _, _, p, hp, _, _ => by simp at hp
  | x :: r, h, hs, p, hp, q, hq => by
    have ht := gapd_lt h (fun y hy => hs y (by simp [hy]))
    rcases List.mem_cons.mp hp with e1 | hp
    · rcases List.mem_cons.mp hq with e2 | hq
      · exact .inl (e1.trans e2.symm)
      · exact .inr (.inl (e1 ▸ ht q hq))
    · rcases List.mem_cons.mp hq with e2 | hq
      · exact .inr (.inr (e2 ▸ ht p hp))
      · exact gapd_apart (gapd_tail h) (fun y hy => hs y (by simp [hy])) p hp q hq
def hasAll (z : Bool) (l : List Pr) (s : Pr) : Bool := (!z && decide (s.1 = s.2)) || l.any fun p => decide (p.1 ≤ s.1) && decide (s.2 ≤ p.2)
theorem hasAll_iff {z : Bool} {l : List Pr} {s : Pr} (h : oneF z l = true) (hs : s.1 ≤ s.2) : hasAll z l s = true ↔ ∀ m, covP z s m → cov z l m := by
  constructor
  · intro h1 m hm
    unfold hasAll at h1
    simp only [Bool.or_eq_true, Bool.and_eq_true, decide_eq_true_eq, List.any_eq_true, Bool.not_eq_true'] at h1
    rcases h1 with ⟨e1, e2⟩ | ⟨p, hp, e1, e2⟩
    · subst e1
      unfold covP at hm
      simp at hm
      omega
    · exact ⟨p, hp, covP_sub e1 e2 hm⟩
  · intro h1
    unfold hasAll
    simp only [Bool.or_eq_true, Bool.and_eq_true, decide_eq_true_eq, List.any_eq_true, Bool.not_eq_true']
    by_cases c : z = false ∧ s.1 = s.2
    · exact .inl c
    · refine .inr ?_
      have hx : covP z s (2 * s.1) := by
        unfold covP
        cases z <;> simp at c ⊢ <;> omega
      obtain ⟨p, hp, c1, c2⟩ := h1 _ hx
      have hg : gapd l = true := by unfold oneF at h; rw [Bool.and_eq_true] at h; exact h.2
      have hle := oneF_le h
      refine ⟨p, hp, by omega, Classical.byContradiction fun hn => ?_⟩
      have hp2 : s.1 ≤ p.2 := by cases z <;> simp at c2 <;> omega
      have hy : covP z s (2 * p.2 + 1) := ⟨by omega, by split <;> omega⟩
      obtain ⟨q, hq, d1, d2⟩ := h1 _ hy
      have := hle p hp
      rcases gapd_apart hg hle p hp q hq with e | e | e
      · subst e
        cases z <;> simp at d2
        omega
      · omega
      · cases z <;> simp at d2 <;> omega
theorem joinG_len : ∀ (l : List Pr) (c : Pr), (joinG c l).length ≤ l.length + 1
  | [], c => Nat.le_refl _
  | p :: r, c => by
    unfold joinG
    split
    · have := joinG_len r p; simp; omega
    · have := joinG_len r (c.1, if c.2 < p.2 then p.2 else c.2); simp; omega
theorem joinM_len (l : List Pr) : (joinM l).length ≤ l.length + 1 := by
  cases l with
  | nil => exact Nat.zero_le _
  | cons p r => exact joinG_len (p :: r) p
theorem union_len (z : Bool) (l : List Pr) : (unionM z l).length ≤ l.length + 1 := by
  unfold unionM
  refine Nat.le_trans (joinM_len _) (Nat.succ_le_succ ?_)
  rw [(srt_perm _).length_eq]
  exact List.length_filter_le ..
theorem union_union (z : Bool) (l : List Pr) : unionM z (unionM z l) = unionM z l := union_is (union_one z l) fun _ => Iff.rfl
/-- a property of the pairs that joining keeps -/
theorem union_keeps {z : Bool} {G : Pr → Prop} (ext : ∀ c p : Pr, G c → G p → c.2 < p.2 → G (c.1, p.2)) {l : List Pr} (h : ∀ p ∈ l, G p) : ∀ p ∈ unionM z l, G p := by
  have jg : ∀ (l : List Pr) (c : Pr), G c → (∀ p ∈ l, G p) → ∀ p ∈ joinG c l, G p := by
    intro l
    induction l with
    | nil => intro c hc _ p hp; rw [joinG] at hp; exact (List.mem_singleton.mp hp) ▸ hc
    | cons q r ih =>
      intro c hc hl p hp
      unfold joinG at hp
      split at hp
      · rcases List.mem_cons.mp hp with e | hp
        · exact e ▸ hc
        · exact ih q (hl q (by simp)) (fun x hx => hl x (by simp [hx])) p hp
      · refine ih _ ?_ (fun x hx => hl x (by simp [hx])) p hp
        split
        · exact ext c q hc (hl q (by simp)) (by assumption)
        · exact hc
  have hl : ∀ p ∈ srt (l.filter fun p => !emp z p), G p := fun p hp => h p (List.mem_filter.mp ((srt_perm _).mem_iff.mp hp)).1
  unfold unionM
  generalize srt (l.filter fun p => !emp z p) = k at hl
  cases k with
  | nil => intro p hp; simp [joinM] at hp
  | cons q r => exact jg (q :: r) q (hl q (by simp)) hl
theorem any_filter {l : List Pr} {f : Pr → Bool} : (!decide (l.filter f = [])) = l.any f := by
  induction l with
  | nil => rfl
  | cons p r ih =>
    cases e : f p with
    | true => rw [List.filter_cons_of_pos e, List.any_cons, e]; simp
    | false => rw [List.filter_cons_of_neg (by rw [e]; decide), List.any_cons, e, Bool.false_or, ih]
end Spk
namespace Spk
theorem oneF_cons_mem {z : Bool} {l : List Pr} (h : oneF z l = true) {p : Pr} (hp : p ∈ l) : emp z p = false := by
  unfold oneF at h
  rw [Bool.and_eq_true, List.all_eq_true] at h
  simpa using h.1 p hp
end Spk

namespace Spk
/-! ### what the wishes for answers count -/
def mx (m n : Int) : Int := if n > m then n else m
def mn (m n : Int) : Int := if n < m then n else m
/-- have two stretches a moment in common -/
def meetB (z : Bool) (p q : Pr) : Bool := decide (mx p.1 q.1 < mn p.2 q.2) || (z && decide (mx p.1 q.1 = mn p.2 q.2))
theorem meet_emp (z : Bool) (p q : Pr) : meetB z p q = !emp z (mx p.1 q.1, mn p.2 q.2) := by
  unfold meetB emp
  rw [Bool.eq_iff_iff]
  cases z <;> simp <;> omega
theorem meet_symm {z : Bool} {p q : Pr} : meetB z p q = meetB z q p := by
  unfold meetB mx mn
  rw [Bool.eq_iff_iff]
  cases z <;> simp only [Bool.or_eq_true, Bool.and_eq_true, decide_eq_true_eq, Bool.false_and, Bool.true_and, Bool.false_eq_true, or_false] <;> (repeat' split) <;> omega
theorem meet_not {z : Bool} {p q : Pr} (h : emp z p = true ∨ emp z q = true) (hp : p.1 ≤ p.2) (hq : q.1 ≤ q.2) : meetB z p q = false := by
  rw [meet_emp]
  unfold emp mx mn at *
  rw [Bool.not_eq_false']
  cases z <;> simp only [Bool.false_eq_true, if_false, if_true, decide_eq_true_eq] at * <;> (repeat' split) <;> omega
theorem meet_srt {z : Bool} {p q : Pr} (h : q.1 ≤ p.1) (hp : emp z p = false) (hq : emp z q = false) : meetB z p q = !emp z (p.1, q.2) := by
  rw [meet_emp]
  congr 1
  rw [Bool.eq_iff_iff]
  unfold emp mx mn at *
  cases z <;> simp only [Bool.false_eq_true, if_false, if_true, decide_eq_true_eq, decide_eq_false_iff_not] at * <;> (repeat' split) <;> omega
/-- no two of them meet -/
def Apart (z : Bool) (ps : List Pr) : Prop := ps.Pairwise fun q p => meetB z p q = false
instance {z : Bool} {ps : List Pr} : Decidable (Apart z ps) := inferInstanceAs (Decidable (List.Pairwise _ _))
def clashB (z : Bool) (ps : List Pr) : Bool := !decide (Apart z ps)
theorem apart_perm {z : Bool} {l k : List Pr} (h : l.Perm k) : Apart z l ↔ Apart z k :=
  h.pairwise_iff fun {x y} e => by rw [meet_symm]; exact e
theorem apart_filter {z : Bool} {l : List Pr} (h : ∀ p ∈ l, p.1 ≤ p.2) : Apart z (l.filter fun p => !emp z p) ↔ Apart z l := by
  unfold Apart
  rw [List.pairwise_filter]
  constructor
  · intro k
    refine k.imp_of_mem fun {q p} hq hp r => ?_
    cases eq : emp z q with
    | true => exact meet_not (.inr eq) (h p hp) (h q hq)
    | false =>
      cases ep : emp z p with
      | true => exact meet_not (.inl ep) (h p hp) (h q hq)
      | false => exact r (by rw [eq]; rfl) (by rw [ep]; rfl)
  · intro k
    exact k.imp fun {q p} r _ _ => r
/-- the loop of has_clash -/
def clashF (z : Bool) : Int → List Pr → Bool
  | _, [] => false
  | r, p :: l => if (decide (r > -10000000000000000000000000000000) && !emp z (p.1, r)) = true then true else clashF z (mx r p.2) l
theorem emp_mx {z : Bool} {b x y : Int} : emp z (b, mx x y) = (emp z (b, x) && emp z (b, y)) := by
  rw [Bool.eq_iff_iff]
  unfold emp mx
  cases z <;> simp only [Bool.false_eq_true, if_false, if_true, Bool.and_eq_true, decide_eq_true_eq] <;> split <;> omega
theorem clashF_no {z : Bool} : ∀ (l : List Pr) (r : Int), (∀ p ∈ l, -10000000000000000000000000000000 < p.2) →
    (clashF z r l = false ↔ (∀ p ∈ l, r > -10000000000000000000000000000000 → emp z (p.1, r) = true) ∧ l.Pairwise fun q p => emp z (p.1, q.2) = true)
  | [], r, _ => by simp [clashF]
  | p :: l, r, h => by
    have hp := h p (by simp)
    have ih := clashF_no (z := z) l (mx r p.2) fun q hq => h q (by simp [hq])
    have g : mx r p.2 > -10000000000000000000000000000000 := by unfold mx; split <;> omega
    rw [List.pairwise_cons]
    unfold clashF
    by_cases c : (decide (r > -10000000000000000000000000000000) && !emp z (p.1, r)) = true
    · rw [if_pos c]
      refine ⟨(fun x => nomatch x), fun x => ?_⟩
      rw [Bool.and_eq_true, decide_eq_true_eq] at c
      have := x.1 p (by simp) c.1
      rw [this] at c
      exact absurd c.2 (by decide)
    · rw [if_neg c, ih]
      have c' : r > -10000000000000000000000000000000 → emp z (p.1, r) = true := fun hr => by
        cases e : emp z (p.1, r) with
        | true => rfl
        | false => exact absurd (by rw [e, decide_eq_true hr]; rfl) c
      constructor
      · rintro ⟨h1, h2⟩
        refine ⟨fun q hq hr => ?_, fun q hq => ?_, h2⟩
        · rcases List.mem_cons.mp hq with e | hq
          · rw [e]; exact c' hr
          · have := h1 q hq g
            rw [emp_mx, Bool.and_eq_true] at this
            exact this.1
        · have := h1 q hq g
          rw [emp_mx, Bool.and_eq_true] at this
          exact this.2
      · rintro ⟨h1, h2, h3⟩
        refine ⟨fun q hq _ => ?_, h3⟩
        rw [emp_mx, Bool.and_eq_true]
        refine ⟨?_, h2 q hq⟩
        by_cases hr : r > -10000000000000000000000000000000
        · exact h1 q (by simp [hq]) hr
        · have := h2 q hq
          have hh := h p (by simp)
          unfold emp at this ⊢
          cases z <;> simp only [Bool.false_eq_true, if_false, if_true, decide_eq_true_eq] at * <;> omega
theorem clash_is {z : Bool} {ps : List Pr} (h1 : ∀ p ∈ ps, p.1 ≤ p.2) (h2 : ∀ p ∈ ps, -10000000000000000000000000000000 < p.2) :
    clashF z (-10000000000000000000000000000000) (srt (ps.filter fun p => !emp z p)) = clashB z ps := by
  have hm : ∀ p ∈ srt (ps.filter fun p => !emp z p), p ∈ ps ∧ emp z p = false := fun p hp => by
    have := List.mem_filter.mp ((srt_perm _).mem_iff.mp hp)
    exact ⟨this.1, by simpa using this.2⟩
  have e : clashF z (-10000000000000000000000000000000) (srt (ps.filter fun p => !emp z p)) = false ↔ Apart z ps := by
    rw [clashF_no _ _ fun p hp => h2 p (hm p hp).1, ← apart_filter h1, ← apart_perm (srt_perm _)]
    constructor
    · rintro ⟨_, k⟩
      refine List.Pairwise.imp_of_mem (fun {q p} hq hp r => ?_) (k.and (srt_sorted _))
      have hle : q.1 ≤ p.1 := by have := r.2; unfold ple at this; omega
      rw [meet_srt hle (hm p hp).2 (hm q hq).2, r.1]; rfl
    · intro k
      refine ⟨fun p _ c => absurd c (by decide), List.Pairwise.imp_of_mem (fun {q p} hq hp r => ?_) (List.Pairwise.and k (srt_sorted _))⟩
      have hle : q.1 ≤ p.1 := by have := r.2; unfold ple at this; omega
      have := r.1
      rw [meet_srt hle (hm p hp).2 (hm q hq).2] at this
      simpa using this
  unfold clashB
  cases c : clashF z (-10000000000000000000000000000000) (srt (ps.filter fun p => !emp z p)) with
  | false => rw [decide_eq_true (e.mp c)]; rfl
  | true => rw [decide_eq_false fun x => by rw [e.mpr x] at c; cases c]; rfl
theorem clash_rev {z : Bool} {ps : List Pr} : clashB z ps.reverse = clashB z ps := by
  unfold clashB
  congr 1
  exact decide_eq_decide.mpr (apart_perm (List.reverse_perm ps))
/-- one more pair behind -/
theorem apart_take {z : Bool} {ps : List Pr} {k : Nat} {p : Pr} (h : ps[k]? = some p) : Apart z (ps.take (k + 1)) ↔ Apart z (ps.take k) ∧ ((ps.take k).any fun q => meetB z p q) = false := by
  have e : ps.take (k + 1) = ps.take k ++ [p] := by rw [List.take_add_one, h]; rfl
  unfold Apart
  rw [e, List.pairwise_append]
  simp only [List.pairwise_cons, List.not_mem_nil, false_imp_iff, implies_true, List.Pairwise.nil, and_true, List.mem_singleton, forall_eq, true_and, List.any_eq_false, Bool.not_eq_true]
/-! ### the law's own pieces -/
def pcGo : List Pr → Pr → List Pr × Pr
  | [], c => ([], c)
  | o :: r, c => if o.2 < c.1 ∨ c.2 < o.1 then (o :: (pcGo r c).1, (pcGo r c).2) else pcGo r (mn c.1 o.1, mx c.2 o.2)
def pcS (s : List Pr × Pr) (o : Pr) : List Pr × Pr := if o.2 < s.2.1 ∨ s.2.2 < o.1 then (s.1 ++ [o], s.2) else (s.1, (mn s.2.1 o.1, mx s.2.2 o.2))
theorem pcS_go : ∀ (l : List Pr) (a : List Pr) (c : Pr), l.foldl pcS (a, c) = (a ++ (pcGo l c).1, (pcGo l c).2)
  | [], a, c => by simp [pcGo]
  | o :: r, a, c => by
    rw [List.foldl_cons]
    unfold pcGo
    by_cases h : o.2 < c.1 ∨ c.2 < o.1
    · rw [if_pos h, show pcS (a, c) o = (a ++ [o], c) from if_pos h, pcS_go r (a ++ [o]) c]
      simp
    · rw [if_neg h, show pcS (a, c) o = (a, (mn c.1 o.1, mx c.2 o.2)) from if_neg h, pcS_go r a _]
def pcStep (z : Bool) (found : List Pr) (p : Pr) : List Pr := if (z || decide (p.1 < p.2)) = true then srt ((pcGo found p).1 ++ [(pcGo found p).2]) else found
def pieces (z : Bool) (ps : List Pr) : List Pr := ps.foldl (pcStep z) []
theorem pcGo_low {m : Int} : ∀ (l : List Pr) (c : Pr), (∀ o ∈ l, m < o.1) → m < c.1 → m < (pcGo l c).2.1
  | [], c, _, h => h
  | o :: r, c, hl, h => by
    unfold pcGo
    split
    · exact pcGo_low r c (fun x hx => hl x (by simp [hx])) h
    · refine pcGo_low r _ (fun x hx => hl x (by simp [hx])) ?_
      have := hl o (by simp)
      show m < mn c.1 o.1
      unfold mn; split <;> omega
theorem pcGo_far : ∀ (l : List Pr) (c : Pr), (∀ o ∈ l, c.2 < o.1) → pcGo l c = (l, c)
  | [], c, _ => rfl
  | o :: r, c, hl => by
    unfold pcGo
    rw [if_pos (.inr (hl o (by simp))), pcGo_far r c fun x hx => hl x (by simp [hx])]
theorem pcGo_sub : ∀ (l : List Pr) (c : Pr), (pcGo l c).1.Sublist l
  | [], c => .slnil
  | o :: r, c => by
    unfold pcGo
    split
    · exact (pcGo_sub r c).cons_cons o
    · exact (pcGo_sub r _).cons o
theorem pcGo_full {z : Bool} : ∀ (l : List Pr) (c : Pr), emp z c = false → emp z (pcGo l c).2 = false
  | [], c, h => h
  | o :: r, c, h => by
    unfold pcGo
    split
    · exact pcGo_full r c h
    · refine pcGo_full r _ ?_
      unfold emp mn mx at *
      cases z <;> simp only [Bool.false_eq_true, if_false, if_true, decide_eq_false_iff_not] at * <;> (repeat' split) <;> omega
def sep (a b : Pr) : Prop := a.2 < b.1 ∨ b.2 < a.1
theorem pcGo_sep : ∀ (l : List Pr) (c : Pr), gapd l = true → (∀ q ∈ l, q.1 ≤ q.2) → ∀ o ∈ (pcGo l c).1, sep o (pcGo l c).2
  | [], c, _, _, o, h => by simp [pcGo] at h
  | q :: r, c, g, hs, o, h => by
    have gr := gapd_tail g
    have hr : ∀ x ∈ r, x.1 ≤ x.2 := fun x hx => hs x (by simp [hx])
    have lt := gapd_lt g hr
    unfold pcGo at h ⊢
    split
    · rename_i hc
      rw [if_pos hc] at h
      rcases List.mem_cons.mp h with e | h
      · subst e
        rcases hc with hc | hc
        · exact .inl (pcGo_low r c lt hc)
        · rw [pcGo_far r c fun x hx => by have := lt x hx; have := hs o (by simp); omega]
          exact .inr hc
      · exact pcGo_sep r c gr hr o h
    · rename_i hc
      rw [if_neg hc] at h
      exact pcGo_sep r _ gr hr o h
theorem cov_mnx {z : Bool} {c o : Pr} (h1 : c.1 ≤ o.2) (h2 : o.1 ≤ c.2) (h3 : c.1 ≤ c.2) (h4 : o.1 ≤ o.2) {m : Int} : covP z (mn c.1 o.1, mx c.2 o.2) m ↔ covP z o m ∨ covP z c m := by
  unfold covP mn mx
  cases z <;> simp only [Bool.false_eq_true, if_false, if_true] <;> (repeat' split) <;> omega
theorem pcGo_cov {z : Bool} : ∀ (l : List Pr) (c : Pr), (∀ q ∈ l, q.1 ≤ q.2) → c.1 ≤ c.2 → ∀ m, (cov z (pcGo l c).1 m ∨ covP z (pcGo l c).2 m) ↔ (cov z l m ∨ covP z c m)
  | [], c, _, _, m => Iff.rfl
  | o :: r, c, hs, hc, m => by
    have hr : ∀ x ∈ r, x.1 ≤ x.2 := fun x hx => hs x (by simp [hx])
    have ho := hs o (by simp)
    unfold pcGo
    split
    · rw [cov_cons, cov_cons, or_assoc, or_assoc, pcGo_cov r c hr hc m]
    · rename_i h
      have h1 : c.1 ≤ o.2 ∧ o.1 ≤ c.2 := by omega
      rw [pcGo_cov r _ hr (by show mn c.1 o.1 ≤ mx c.2 o.2; unfold mn mx; (repeat' split) <;> omega) m, cov_mnx h1.1 h1.2 hc ho, cov_cons]
      constructor
      · rintro (a | a | a)
        · exact .inl (.inr a)
        · exact .inl (.inl a)
        · exact .inr a
      · rintro ((a | a) | a)
        · exact .inr (.inl a)
        · exact .inl a
        · exact .inr (.inr a)
theorem gapd_sep : ∀ {l : List Pr}, l.Pairwise ple → l.Pairwise sep → (∀ q ∈ l, q.1 ≤ q.2) → gapd l = true
  | [], _, _, _ => rfl
  | [_], _, _, _ => rfl
  | p :: q :: r, h1, h2, hs => by
    have a := (List.pairwise_cons.mp h1).1 q (by simp)
    have b := (List.pairwise_cons.mp h2).1 q (by simp)
    have hq := hs q (by simp)
    unfold gapd
    rw [gapd_sep (List.pairwise_cons.mp h1).2 (List.pairwise_cons.mp h2).2 fun x hx => hs x (by simp [hx]), Bool.and_true, decide_eq_true_eq]
    unfold ple at a
    unfold sep at b
    omega
theorem gapd_pw : ∀ {l : List Pr}, gapd l = true → (∀ q ∈ l, q.1 ≤ q.2) → l.Pairwise sep
  | [], _, _ => .nil
  | p :: r, g, hs => List.pairwise_cons.mpr ⟨fun q hq => .inl (gapd_lt g (fun x hx => hs x (by simp [hx])) q hq), gapd_pw (gapd_tail g) fun x hx => hs x (by simp [hx])⟩
theorem sep_symm {a b : Pr} (h : sep a b) : sep b a := h.symm
theorem pcStep_ok {z : Bool} {f : List Pr} {p : Pr} (h : oneF z f = true) (hp : p.1 ≤ p.2) : oneF z (pcStep z f p) = true ∧ ∀ m, cov z (pcStep z f p) m ↔ cov z f m ∨ covP z p m := by
  have hf := oneF_le h
  have h' := h
  unfold oneF at h
  rw [Bool.and_eq_true, List.all_eq_true] at h
  unfold pcStep
  by_cases c : (z || decide (p.1 < p.2)) = true
  · rw [if_pos c]
    have hpe : emp z p = false := by
      unfold emp
      cases z <;> simp at c ⊢ <;> omega
    have sub := pcGo_sub f p
    have full := pcGo_full f p hpe
    have mem : ∀ x ∈ srt ((pcGo f p).1 ++ [(pcGo f p).2]), emp z x = false := fun x hx => by
      rcases List.mem_append.mp ((srt_perm _).mem_iff.mp hx) with y | y
      · simpa using h.1 x (sub.subset y)
      · rw [List.mem_singleton.mp y]; exact full
    refine ⟨?_, fun m => ?_⟩
    · unfold oneF
      rw [Bool.and_eq_true, List.all_eq_true]
      refine ⟨fun x hx => by rw [mem x hx]; rfl, gapd_sep (srt_sorted _) ?_ fun x hx => emp_le (mem x hx)⟩
      refine ((srt_perm _).pairwise_iff fun {x y} e => sep_symm e).mpr ?_
      rw [List.pairwise_append]
      exact ⟨(gapd_pw h.2 hf).sublist sub, by simp, fun a ha b hb => by rw [List.mem_singleton.mp hb]; exact pcGo_sep f p h.2 hf a ha⟩
    · rw [cov_perm (srt_perm _), cov_app, cov_cons, ← pcGo_cov f p hf hp m]
      simp [cov_nil]
  · rw [if_neg c]
    refine ⟨h', fun m => ⟨Or.inl, fun x => x.elim id fun y => absurd y (emp_cov ?_ m)⟩⟩
    unfold emp
    cases z <;> simp at c ⊢ <;> omega
theorem pieces_ok {z : Bool} : ∀ (ps : List Pr) (f : List Pr), oneF z f = true → (∀ p ∈ ps, p.1 ≤ p.2) → oneF z (ps.foldl (pcStep z) f) = true ∧ ∀ m, cov z (ps.foldl (pcStep z) f) m ↔ cov z f m ∨ cov z ps m
  | [], f, h, _ => ⟨h, fun m => by simp [cov_nil]⟩
  | p :: r, f, h, hs => by
    obtain ⟨a, b⟩ := pcStep_ok (z := z) h (hs p (by simp))
    obtain ⟨c, d⟩ := pieces_ok r _ a fun x hx => hs x (by simp [hx])
    refine ⟨c, fun m => ?_⟩
    show cov z (r.foldl (pcStep z) (pcStep z f p)) m ↔ _
    rw [d m, b m, cov_cons, or_assoc]
theorem pieces_is {z : Bool} {ps : List Pr} (h : ∀ p ∈ ps, p.1 ≤ p.2) : pieces z ps = unionM z ps := by
  obtain ⟨a, b⟩ := pieces_ok (z := z) ps [] rfl h
  exact (union_is a fun m => by rw [b m]; simp [cov_nil]).symm
theorem pieces_len {z : Bool} {ps : List Pr} : (pieces z ps).length ≤ ps.length := by
  have : ∀ (l f : List Pr), (l.foldl (pcStep z) f).length ≤ f.length + l.length := by
    intro l
    induction l with
    | nil => intro f; simp
    | cons p r ih =>
      intro f
      have h1 := ih (pcStep z f p)
      have h2 : (pcStep z f p).length ≤ f.length + 1 := by
        unfold pcStep
        split
        · rw [(srt_perm _).length_eq, List.length_append, List.length_singleton]
          have := (pcGo_sub f p).length_le
          omega
        · omega
      rw [List.foldl_cons, List.length_cons]
      omega
  have := this ps []
  unfold pieces
  simpa using this
/-! ### the answers -/
def busyB (z : Bool) (ps : List Pr) (w : Pr) : Bool := ps.any fun p => meetB z p w
def covB (us : List Pr) (w : Pr) : Bool := us.any fun p => decide (p.1 ≤ w.1) && decide (w.2 ≤ p.2)
/-- t: 0 busy, 1 covered, 2 clash -/
def ansB (t : Nat) (z : Bool) (ps : List Pr) (w : Pr) : Bool := if t = 0 then busyB z ps w else if t = 1 then covB (unionM z ps) w else clashB z ps
theorem union_rev {z : Bool} {ps : List Pr} : unionM z ps.reverse = unionM z ps := union_eq_iff.mpr fun m => cov_perm (List.reverse_perm ps)
theorem ans_rev {t : Nat} {z : Bool} {ps : List Pr} {w : Pr} : ansB t z ps.reverse w = ansB t z ps w := by
  unfold ansB
  rw [clash_rev, union_rev, show busyB z ps.reverse w = busyB z ps w from List.any_reverse ..]
theorem ans_nil {t : Nat} {z : Bool} {w : Pr} : ansB t z [] w = false := by
  unfold ansB busyB clashB
  split
  · rfl
  · split
    · rfl
    · rw [decide_eq_true (show Apart z [] from .nil)]; rfl
end Spk

namespace Spk
open PySem PySem.Spec PyProof.Rows L2
section
variable {X : Cx} {e : Expr} {te : TE} {p2 pos q1 q2 : Pos} {j : Nat}
/-- xs[::-1] of a list: a new list -/
theorem pe_rev (he : PE X e te) : PE X (.Subscript e (.Slice none none (some (.UnaryOp .USub (.Constant (.int 1) j q1) q2)) p2) pos)
    (fun σ H Q => te σ H fun x H1 => ∃ a xs, x = .ref a ∧ SqL X.K H1 a xs ∧ ∀ p, H1 p = none → Q (.ref p) (upd H1 p (.lst xs.reverse))) := by
  refine ⟨fun pins s σ H Q I h => ?_⟩
  refine Subscript_ (thn (he.run pins s σ H _ I h) fun v s1 ⟨x, H1, I1, r1, q1'⟩ => ?_)
  refine wpAny_Slice ?_
  rw [evalPart_none]
  refine wpAny_pure (wpAny_pure ?_)
  have hk : PO X (some (.UnaryOp .USub (.Constant (.int 1) j q1) q2)) _ := po_some (pe_un un_neg pe_int)
  refine thn (hk.run pins s1 σ H1 (fun k H2 => k = some (-1) ∧ ∃ a xs, x = .ref a ∧ SqL X.K H2 a xs ∧ ∀ p, H2 p = none → Q (.ref p) (upd H2 p (.lst xs.reverse))) I1 ⟨_, rfl, _, rfl, rfl, q1'⟩) fun vk s3 ⟨k, H3, I3, pk, ek, a, xs, ex, hx, q⟩ => ?_
  subst ek
  subst ex
  obtain rfl : v = Value.ref a := r1
  have I4 : Inv X pins σ H3 { s3 with heap := s3.heap.push { cls := .type "slice", data := .fields #[.none, .none, vk] } } := I3.kept (t' := s3.toks) fun b ob q => Heap.get?_push_of_some _ q
  show wpAny (model X.prog X.w) X.A (subscriptTail e (.Slice none none (some (.UnaryOp .USub (.Constant (.int 1) j q1) q2)) p2) (.ref a) (.ref s3.heap.objs.size)) (EP X pins σ Q) X.xe { s3 with heap := s3.heap.push { cls := .type "slice", data := .fields #[.none, .none, vk] } }
  obtain ⟨its, r, ht, hz⟩ := I4.list hx
  have hlen := r.length
  refine tail_any (ops := [.ref a, .ref s3.heap.objs.size]) ht.isList.typeIs slot_list_getitem.lookup ?_ (by with_unfolding_all rfl)
  refine wpAny_getItem_list_slice ht.isList (Heap.IsSliceOf.new ..) .none .none pk (by decide) ?_ (by rw [List.size_toArray] <;> omega)
  rw [PySem.W.krv_pick]
  refine ⟨.ref _, _, I4.laid (t' := s3.toks) (o := .lst xs.reverse) (fun b ob q => Heap.get?_push_of_some _ q) (Nat.le_refl _) ?_, rfl, q _ (I4.hok.fresh (Nat.le_refl _))⟩
  refine ⟨by rw [List.length_reverse]; exact hz, its.reverse, 0, ?_, ?_⟩
  · have : ∀ {zs : List V} {ws : List Value} {as : List V} {bs : List Value}, Vals zs ws → Vals as bs → Vals (zs.reverseAux as) (ws.reverseAux bs) := by
      intro zs
      induction zs with
      | nil => intro ws as bs h k; cases h; exact k
      | cons z zs ih =>
        intro ws as bs h k
        cases h with
        | @cons _ u _ us a b =>
          show Vals (zs.reverseAux (z :: as)) (us.reverseAux (u :: bs))
          exact ih b (.cons a k)
    exact this r .nil
  · exact Heap.get?_push_size _ rfl
end
end Spk

namespace Spk
open PySem PySem.Spec PyProof.Rows L2
/-! ### the draws of the later laws -/
def BagN (H : Hp) (p : Addr) : Prop := ∃ b0 b1 : Int, H p = some (.lst [.int b0, .int b1]) ∧ 0 ≤ b0 ∧ 0 ≤ b1 ∧ b1 < 2147483629
theorem BagN.same {H H' : Hp} {p : Addr} (h : BagN H p) (e : Same H H') : BagN H' p := by
  obtain ⟨b0, b1, h0, h1⟩ := h
  exact ⟨b0, b1, e _ _ h0, h1⟩
theorem BagN.kp {H H' : Hp} {p q : Addr} (h : BagN H p) (k : Kp q H H') (n : p ≠ q) : BagN H' p := by
  obtain ⟨b0, b1, h0, h1⟩ := h
  exact ⟨b0, b1, k _ _ n h0, h1⟩
theorem bagN_ne {H : Hp} {p q : Addr} {o : HO} (h : BagN H p) (e : H q = some o) (n : ∀ b0 b1 : Int, o ≠ .lst [.int b0, .int b1]) : q ≠ p := by
  rintro rfl
  obtain ⟨b0, b1, h0, _⟩ := h
  rw [h0] at e
  exact n b0 b1 (Option.some.inj e).symm
theorem bagN_tup {H : Hp} {p t : Addr} {xs : List V} (h : BagN H p) (e : H t = some (.tup xs)) : t ≠ p := bagN_ne h e fun _ _ z => nomatch z
theorem bagN_refs {H : Hp} {p s : Addr} {ts : List Addr} (bg : BagN H p) (h : H s = some (.lst (ts.map V.ref))) : s ≠ p := bagN_ne bg h fun b0 b1 z => by
  have z := HO.lst.inj z
  cases ts with
  | nil => cases z
  | cons t ts => exact V.noConfusion (List.cons.inj z).1
theorem bagN_none {H : Hp} {p q : Addr} (h : BagN H p) (e : H q = none) : q ≠ p := by
  rintro rfl
  obtain ⟨b0, b1, h0, _⟩ := h
  rw [h0] at e; cases e
theorem BagN.ne_tup {H : Hp} {p : Addr} (h : BagN H p) : ∀ xs, H p ≠ some (.tup xs) := fun xs e => by
  obtain ⟨b0, b1, h0, _⟩ := h
  rw [h0] at e; cases e
/-! ### windows, terms -/
def winP (w : Pr) : Bool := edgeI w.1 && edgeI w.2 && decide (w.1 < w.2)
theorem winP_of {a b : Int} (ha : (-1000000000000000000000000000000 ≤ a ∧ a ≤ 1000000000000000000000000000000) ∨ a = -10000000000000000000000000000000)
    (hb : (-1000000000000000000000000000000 ≤ b ∧ b ≤ 1000000000000000000000000000000) ∨ b = 10000000000000000000000000000000) (h : a < b) : winP (a, b) = true := by
  unfold winP edgeI
  simp only [Bool.and_eq_true, Bool.or_eq_true, decide_eq_true_eq]
  omega
theorem winP_lt {w : Pr} (h : winP w = true) : w.1 < w.2 := by
  unfold winP at h
  simp only [Bool.and_eq_true, decide_eq_true_eq] at h
  exact h.2
theorem winP_pair {w : Pr} (h : winP w = true) : isPair (prD w) = true := by
  unfold winP at h
  rw [Bool.and_eq_true] at h
  exact h.1
theorem strP_first' {p : Pr} (h : strP p = true) : -10000000000000000000000000000000 < p.2 := by
  unfold strP at h
  simp only [Bool.and_eq_true, decide_eq_true_eq] at h
  exact h.2.2.2
def termV (t : Nat) : V := if t = 0 then .str "busy" else if t = 1 then .str "covered" else .str "clash"
theorem term_scal (t : Nat) (x : Str) : scal (termV t) (.str x) = true := by
  unfold termV
  split
  · rfl
  · split <;> rfl
theorem term_0 (t : Nat) : decide (termV t = .str "busy") = decide (t = 0) := by
  unfold termV
  split
  · rename_i h; subst h; decide +kernel
  · rename_i h
    rw [decide_eq_false h]
    split <;> decide +kernel
theorem term_1 (t : Nat) : decide (termV t = .str "covered") = decide (t = 1) := by
  unfold termV
  split
  · rename_i h; subst h; decide +kernel
  · split
    · rename_i h; subst h; decide +kernel
    · rename_i h
      rw [decide_eq_false h]
      decide +kernel
theorem mem_term {j : Nat} {x : V} (h : ([.str "busy", .str "covered", .str "clash"] : List V)[j]? = some x) : x = termV j ∧ j < 3 := by
  match j, h with
  | 0, h => exact ⟨(Option.some.inj h).symm, by decide⟩
  | 1, h => exact ⟨(Option.some.inj h).symm, by decide⟩
  | 2, h => exact ⟨(Option.some.inj h).symm, by decide⟩
theorem srt_len {ps : List Pr} : (srt ps).length = ps.length := (srt_perm ps).length_eq
theorem mxE (m n : Int) : (if n > m then n else m) = mx m n := rfl
theorem mnE (m n : Int) : (if n < m then n else m) = mn m n := rfl
/-! ### an Answer -/
/-- the tuple of the module that holds the words -/
structure WordsT (K : PySem.W.Frag) (mg : Str → Option Value) (x : Str) (xs : List V) : Prop where
  ex : ∃ A : Addr, mg x = some (.ref A) ∧ ∀ H, SqT K H A xs
theorem pe_words' {X : Cx} {x : Str} {xs : List V} {pos : Pos} (h : WordsT X.K X.mg x xs) (hg : Gl X x) (hd : (x == ("__debug__" : Str)) = false := by decide) : PE X (.Name x pos) (fun _ H Q => ∀ A, SqT X.K H A xs → Q (.ref A) H) := by
  obtain ⟨A, hm, hs⟩ := h.ex
  have q := pe_glob (v := .ref A) (pos := pos) hg hm rfl hd
  exact ⟨fun pins s σ H R I z => q.run pins s σ H R I (z A (hs H))⟩
/-- a def with keyword-only defaults alone -/
theorem okDK {P : Program} {w : World} {K : PySem.W.Frag} {mg : Str → Option Value} {bh : Heap} {x qu : Str} {st : Stmt} {kws : List (Str × V)} {f : Addr} {fd : FuncData} {N ps : List Str} {k : Nat} {sp : Sp}
    (F : FunD K x qu (defArgs st) (defBody st) (defScope st) [] kws f fd) (S : FnScope N ps (defScope st)) (ln : ∀ vs H Q E, sp vs H Q E → vs.length = ps.length)
    (hb : ∀ (cv : Value) (B : Around) (ou : List Env) (t : Shared) (J : Hp) (ws : List V) (R : VK) (U : XK), Room k (B.deeper (envOfC qu (defScope st) t.heap.objs.size f cv)) → sp ws J R U →
      ∃ tr, PSs (cxOf CX0 P w K mg bh N qu (defScope st) f cv B ou t J U).nox (defBody st) tr ∧ tr { nx := fun _ J' => R .non J', rt := R } (L2.start N ws) J) :
    FnOk P w K mg bh CX0 (k + 1) f fd ps sp := F.ok S ln fun cv B ou t J ws R U rm h => by
  obtain ⟨tr, q, z⟩ := hb cv B ou t J ws R U rm h
  exact ⟨tr, q.nox, z⟩
/-- a method, a property, a class ready to be used -/
structure RdyMt (P : Program) (w : World) (K : PySem.W.Frag) (mg : Str → Option Value) (bh : Heap) (C : Addr) (m : Str) (k : Nat) (ps : List Str) (dvs : List V) (sp : Sp) (f : Addr) (fd : FuncData) : Prop where
  ok : FnOk P w K mg bh CX0 k f fd ps sp
  mt : Meth K C m f
  bd : Binds K fd ps []
  bd1 : ∃ ds, Vals dvs ds ∧ Binds K fd ps ds
structure RdyPr (P : Program) (w : World) (K : PySem.W.Frag) (mg : Str → Option Value) (bh : Heap) (C : Addr) (m : Str) (k : Nat) (sp : Sp) (p f : Addr) (fd : FuncData) : Prop where
  ok : FnOk P w K mg bh CX0 k f fd ["self"] sp
  pr : PropOf K C m p f
  bd : Binds K fd ["self"] []
structure RdyMk (P : Program) (w : World) (K : PySem.W.Frag) (mg : Str → Option Value) (bh : Heap) (x : Str) (C : Addr) (k : Nat) (ps : List Str) (dvs : List V) (sp : Sp) (f : Addr) (fd : FuncData) : Prop where
  ok : FnOk P w K mg bh CX0 k f fd ps sp
  mkr : Mk K C f
  gl : mg x = some (.ref C)
  bd1 : ∃ ds, Vals dvs ds ∧ Binds K fd ps ds
  kb : ∃ g, KBn K fd ps 2 ["ends"] g (fun vs zs => vs ++ zs)
structure AnsC (K : PySem.W.Frag) (C : Addr) : Prop where
  cl : Cls K C
  nW : NoAttr K C "what"
  nE : NoAttr K C "ends"
def ansFs (t : Nat) (z : Bool) : List (Str × V) := [(("what" : Str), termV t), (("ends" : Str), endsV z)]
def IsAns (H : Hp) (a C : Addr) (t : Nat) (z : Bool) : Prop := ∃ dx : Addr, H a = some (.ins C dx (ansFs t z))
theorem IsAns.same {H H' : Hp} {a C : Addr} {t : Nat} {z : Bool} (h : IsAns H a C t z) (s : Same H H') : IsAns H' a C t z := by
  obtain ⟨dx, h1⟩ := h
  exact ⟨dx, s _ _ h1⟩
theorem ans_what (t : Nat) (z : Bool) : List.lookup ("what" : Str) (ansFs t z) = some (termV t) := by simp [ansFs, List.lookup]
theorem ans_ends (t : Nat) (z : Bool) : List.lookup ("ends" : Str) (ansFs t z) = some (endsV z) := by
  have : (("ends" : Str) == ("what" : Str)) = false := by decide +kernel
  simp [ansFs, List.lookup, this]
theorem ans_no {f : Str} (t : Nat) (z : Bool) (h1 : (f == ("what" : Str)) = false) (h2 : (f == ("ends" : Str)) = false) : List.lookup f (ansFs t z) = none := by simp [ansFs, List.lookup, h1, h2]
theorem ans_put (t : Nat) (z : Bool) : putF "ends" (endsV z) (putF "what" (termV t) []) = ansFs t z := by
  have : ¬ (("what" : Str) = ("ends" : Str)) := by decide +kernel
  simp [putF, ansFs, this]
theorem Pd.rev {H : Hp} : ∀ {ts : List Addr} {ps : List Pr}, Pd H ts ps → Pd H ts.reverse ps.reverse
  | [], [], _ => trivial
  | t :: ts, r :: ps, h => by
    rw [List.reverse_cons, List.reverse_cons]
    exact (Pd.rev h.2).app ⟨h.1, trivial⟩
  | [], _ :: _, h => h.elim
  | _ :: _, [], h => h.elim
end Spk
namespace Spk
open PySem PySem.Spec PyProof.Rows L2
theorem cut_int {ns : List Int} {lo hi : Option Int} {i : Nat} {x : V} (h : (cutV (ns.map V.int) lo hi)[i]? = some x) : ∃ n, x = .int n := by
  have := List.mem_of_getElem? h
  unfold cutV at this
  have := List.mem_of_mem_drop (List.mem_of_mem_take this)
  obtain ⟨n, _, e⟩ := List.mem_map.mp this
  exact ⟨n, e.symm⟩
theorem cut_len {xs : List V} {lo hi : Option Int} : (cutV xs lo hi).length ≤ xs.length := cutV_length xs lo hi
end Spk
namespace Spk
open PySem PySem.Spec PyProof.Rows L2
/-- o.f, the written part named (within a comprehension) -/
theorem pe_fldK {X : Cx} {K : PySem.W.Frag} {e : Expr} {ta : TE} {f : Str} {pos : Pos} (ho : PE X e ta) (hb : attributeBase e f X.env (eval e X.env) = eval e X.env := by rfl) (h : X.K = K := by rfl) : PE X (.Attribute e f pos) (tFld K ta f) := h ▸ pe_fld ho hb
end Spk

namespace Spk
open PySem PySem.Spec PyProof.Rows L2
/-- but for what stands at p and q all that was tracked is as it was -/
def Ks (p q : Addr) (H H' : Hp) : Prop := ∀ b o, b ≠ p → b ≠ q → H b = some o → H' b = some o
theorem Ks.refl {p q : Addr} {H : Hp} : Ks p q H H := fun _ _ _ _ h => h
theorem Ks.trans {p q : Addr} {H H1 H2 : Hp} (a : Ks p q H H1) (b : Ks p q H1 H2) : Ks p q H H2 := fun c o n m h => b c o n m (a c o n m h)
theorem Ks.same {p q : Addr} {H H' : Hp} (s : Same H H') : Ks p q H H' := fun c o _ _ h => s c o h
theorem Ks.kp {p q : Addr} {H H' : Hp} (s : Kp p H H') : Ks p q H H' := fun c o n _ h => s c o n h
theorem Ks.kq {p q : Addr} {H H' : Hp} (s : Kp q H H') : Ks p q H H' := fun c o _ n h => s c o n h
end Spk
namespace Spk
open PySem PySem.Spec PyProof.Rows L2
theorem pcS_take {l : List Pr} {p o : Pr} {k : Nat} (h : l[k]? = some o) : (l.take (k + 1)).foldl pcS ([], p) = pcS ((l.take k).foldl pcS ([], p)) o := by
  rw [take_more h, List.foldl_append]; rfl
theorem pcS_len (l : List Pr) (p : Pr) (s : List Pr) : (l.foldl pcS (s, p)).1.length ≤ s.length + l.length := by
  rw [pcS_go]
  have := (pcGo_sub l p).length_le
  simp only [List.length_append]
  omega
theorem pcStep_pos {z : Bool} {f : List Pr} {p : Pr} (h : (z || decide (p.1 < p.2)) = true) : pcStep z f p = srt ((f.foldl pcS ([], p)).1 ++ [(f.foldl pcS ([], p)).2]) := by
  unfold pcStep
  rw [if_pos h, pcS_go]
  rfl
theorem pcStep_neg {z : Bool} {f : List Pr} {p : Pr} (h : ¬ (z || decide (p.1 < p.2)) = true) : pcStep z f p = f := by
  unfold pcStep
  rw [if_neg h]
theorem step_take {z : Bool} {ps : List Pr} {p : Pr} {i : Nat} (h : ps[i]? = some p) : (ps.take (i + 1)).foldl (pcStep z) [] = pcStep z ((ps.take i).foldl (pcStep z) []) p := by
  rw [take_more h, List.foldl_append]; rfl
end Spk
namespace Spk
/-- or, the way of yes told once -/
theorem or_mid {c1 c2 : Bool} {A C : Prop} (h : (c1 || c2) = true → A) (k : c1 = false → (c2 = true → A) → C) : if c1 = true then A else C := by
  cases c1 with
  | true => rw [if_pos rfl]; exact h rfl
  | false => rw [if_neg Bool.false_ne_true]; exact k rfl fun e => h (by rw [e]; rfl)
end Spk
namespace Spk
open PySem PySem.Spec PyProof.Rows L2
/-- one turn of a comprehension of truths over pairs -/
theorem bl_step {f : Pr → Bool} {L : List Pr} {i : Nat} {p : Pr} {H1 H4 : Hp} {D : Addr} (hp : L[i]? = some p) (nD : H1 D = none) (hl : L.length ≤ 2000) (ss : Same H1 H4) (hD : H4 D = some (.lst (((L.take i).map f).map V.bl))) {b : Bool} (e : f p = b) :
    ∃ acc, H4 D = some (.lst acc) ∧ acc.length < sizeLine ∧ Same H1 (upd H4 D (.lst (acc ++ [.bl b]))) ∧ upd H4 D (.lst (acc ++ [.bl b])) D = some (.lst (((L.take (i + 1)).map f).map V.bl)) := by
  have hk : (L.take i).length ≤ L.length := List.length_take_le' ..
  refine ⟨_, hD, ?_, fun c o hb => ?_, ?_⟩
  · rw [List.length_map, List.length_map]
    have : (2000 : Nat) < sizeLine := by decide
    omega
  · rw [upd_ne (ne_of_none hb nD)]
    exact ss _ _ hb
  · rw [upd_same, take_more hp, List.map_append, List.map_append, ← e]
    rfl
theorem any_bl {f : Pr → Bool} {L : List Pr} : (L.map f).any id = L.any f := by
  rw [List.any_map]; rfl
end Spk
namespace Spk
open PySem PySem.Spec PyProof.Rows L2
theorem same_kp {p : Addr} {H H1 H2 : Hp} (np : H p = none) (a : Same H H1) (b : Kp p H1 H2) : Same H H2 := fun c o h => b c o (ne_of_none h np) (a c o h)
/-- what was made behind, at L, may be changed -/
theorem kp_ks {p L : Addr} {H H1 H2 : Hp} (k : Kp p H H1) (nL : H1 L = none) (neL : L ≠ p) (b : Ks p L H1 H2) : Kp p H H2 := fun c o n h =>
  b c o n (fun z => by subst z; rw [k _ _ n h] at nL; cases nL) (k c o n h)
theorem ks_new {p L : Addr} {H H1 : Hp} {o : HO} (nL : H L = none) (b : Ks p L (upd H L o) H1) (neL : L ≠ p) : Kp p H H1 := fun c u n h =>
  b c u n (ne_of_none h nL) (by rw [upd_ne (ne_of_none h nL)]; exact h)
theorem take_good {ps : List Pr} {n : Nat} (h : ∀ x ∈ ps, strP x = true) : ∀ x ∈ ps.take n, strP x = true := fun x hx => h x (List.mem_of_mem_take hx)
theorem drop_good {ps : List Pr} {n : Nat} (h : ∀ x ∈ ps, strP x = true) : ∀ x ∈ ps.drop n, strP x = true := fun x hx => h x (List.mem_of_mem_drop hx)
theorem eqv_self (ps : List Pr) : (!PyData.eqv (.list (ps.map prD)) (.list (ps.map prD))) = false := by rw [eqvPs, decide_eq_true rfl]; rfl
end Spk
namespace Spk
open PySem PySem.Spec PyProof.Rows L2
theorem iteFe {c : Bool} {A B : Prop} (h : c = false) (b : B) : if c = true then A else B := by
  rw [h, if_neg Bool.false_ne_true]; exact b
theorem in_bools (d : Bool) : inV (.bl d) [.bl true, .bl false] = true := by cases d <;> decide +kernel
theorem same_make {o dx C : Addr} {H H' : Hp} (no : H o = none) (nd : H dx = none) (k : Kp o (upd (upd H dx (.own o)) o (.ins C dx [])) H') : Same H H' := fun b u e =>
  k b u (ne_of_none e no) (by rw [upd_ne (ne_of_none e no), upd_ne (ne_of_none e nd)]; exact e)
theorem no_wished (t : Nat) (z : Bool) : List.lookup ("wished" : Str) (ansFs t z) = none := ans_no t z (by decide +kernel) (by decide +kernel)
end Spk

namespace Spk
open PySem PySem.Spec PyProof.Rows L2
/-- a shorter reading of an expression -/
theorem pe_imp {X : Cx} {e : Expr} {t t' : TE} (h : PE X e t) (i : ∀ σ H Q, t' σ H Q → t σ H Q) : PE X e t' := ⟨fun pins s σ H Q I z => h.run pins s σ H Q I (i σ H Q z)⟩
/-! ### what the wishes for numbers count -/
def hldB (z : Bool) (p : Pr) (i : Int) : Bool := decide (p.1 ≤ i) && (if z then decide (i ≤ p.2) else decide (i < p.2))
/-- t: 0 all, 1 full, 2 left, 3 within, 4 touched, 5 pieces -/
def cntB (t : Nat) (z : Bool) (w p : Pr) : Bool := if t = 1 then !emp z p else if t = 2 then hldB z p w.1 else if t = 3 then (decide (w.1 ≤ p.1) && decide (p.2 ≤ w.2)) else if t = 4 then meetB z p w else true
def numB (t : Nat) (z : Bool) (ps : List Pr) (w : Pr) : Int := if t = 5 then ((unionM z ps).length : Int) else ((ps.filter (cntB t z w)).length : Int)
def numS (t : Nat) : Str := if t = 0 then "all" else if t = 1 then "full" else if t = 2 then "left" else if t = 3 then "within" else if t = 4 then "touched" else "pieces"
def numV (t : Nat) : V := .str (numS t)
theorem six {P : Nat → Prop} {t : Nat} (h : t < 6) (h0 : P 0) (h1 : P 1) (h2 : P 2) (h3 : P 3) (h4 : P 4) (h5 : P 5) : P t := by
  have : t = 0 ∨ t = 1 ∨ t = 2 ∨ t = 3 ∨ t = 4 ∨ t = 5 := by omega
  rcases this with rfl | rfl | rfl | rfl | rfl | rfl <;> assumption
theorem num_full {t : Nat} (h : t < 6) : decide (numV t = .str "full") = decide (t = 1) := six (P := fun t => decide (numV t = .str "full") = decide (t = 1)) h (by decide +kernel) (by decide +kernel) (by decide +kernel) (by decide +kernel) (by decide +kernel) (by decide +kernel)
theorem num_left {t : Nat} (h : t < 6) : decide (numV t = .str "left") = decide (t = 2) := six (P := fun t => decide (numV t = .str "left") = decide (t = 2)) h (by decide +kernel) (by decide +kernel) (by decide +kernel) (by decide +kernel) (by decide +kernel) (by decide +kernel)
theorem num_within {t : Nat} (h : t < 6) : decide (numV t = .str "within") = decide (t = 3) := six (P := fun t => decide (numV t = .str "within") = decide (t = 3)) h (by decide +kernel) (by decide +kernel) (by decide +kernel) (by decide +kernel) (by decide +kernel) (by decide +kernel)
theorem num_touched {t : Nat} (h : t < 6) : decide (numV t = .str "touched") = decide (t = 4) := six (P := fun t => decide (numV t = .str "touched") = decide (t = 4)) h (by decide +kernel) (by decide +kernel) (by decide +kernel) (by decide +kernel) (by decide +kernel) (by decide +kernel)
theorem num_pieces {t : Nat} (h : t < 6) : decide (numV t = .str "pieces") = decide (t = 5) := six (P := fun t => decide (numV t = .str "pieces") = decide (t = 5)) h (by decide +kernel) (by decide +kernel) (by decide +kernel) (by decide +kernel) (by decide +kernel) (by decide +kernel)
theorem num_mem {t : Nat} (h : t < 6) : inV (numV t) [.str "all", .str "full", .str "left", .str "within", .str "touched", .str "pieces"] = true := six (P := fun t => inV (numV t) [.str "all", .str "full", .str "left", .str "within", .str "touched", .str "pieces"] = true) h (by decide +kernel) (by decide +kernel) (by decide +kernel) (by decide +kernel) (by decide +kernel) (by decide +kernel)
theorem num_uses {t : Nat} (h : t < 6) : inV (numV t) [.str "left", .str "within", .str "touched"] = (decide (2 ≤ t) && decide (t ≤ 4)) := six (P := fun t => inV (numV t) [.str "left", .str "within", .str "touched"] = (decide (2 ≤ t) && decide (t ≤ 4))) h (by decide +kernel) (by decide +kernel) (by decide +kernel) (by decide +kernel) (by decide +kernel) (by decide +kernel)
theorem num_free {t : Nat} (h : t < 6) : inV (numV t) [.str "all", .str "full", .str "pieces"] = (decide (t ≤ 1) || decide (t = 5)) := six (P := fun t => inV (numV t) [.str "all", .str "full", .str "pieces"] = (decide (t ≤ 1) || decide (t = 5))) h (by decide +kernel) (by decide +kernel) (by decide +kernel) (by decide +kernel) (by decide +kernel) (by decide +kernel)
theorem mem_num {j : Nat} {x : V} (h : ([.str "all", .str "full", .str "left", .str "within", .str "touched", .str "pieces"] : List V)[j]? = some x) : x = numV j ∧ j < 6 := by
  match j, h with
  | 0, h => exact ⟨(Option.some.inj h).symm, by decide⟩
  | 1, h => exact ⟨(Option.some.inj h).symm, by decide⟩
  | 2, h => exact ⟨(Option.some.inj h).symm, by decide⟩
  | 3, h => exact ⟨(Option.some.inj h).symm, by decide⟩
  | 4, h => exact ⟨(Option.some.inj h).symm, by decide⟩
  | 5, h => exact ⟨(Option.some.inj h).symm, by decide⟩
theorem num_rev {t : Nat} {z : Bool} {ps : List Pr} {w : Pr} : numB t z ps.reverse w = numB t z ps w := by
  unfold numB
  rw [union_rev, List.filter_reverse, List.length_reverse]
theorem num_nil {t : Nat} {z : Bool} {w : Pr} : numB t z [] w = 0 := by
  unfold numB
  split <;> rfl
theorem num_snoc {t : Nat} {z : Bool} {ps : List Pr} {x w : Pr} (h : t ≠ 5) : numB t z (ps ++ [x]) w - numB t z ps w = numB t z [x] w := by
  unfold numB
  rw [if_neg h, if_neg h, if_neg h, List.filter_append, List.length_append]
  omega
theorem num_nn {t : Nat} {z : Bool} {ps : List Pr} {w : Pr} : 0 ≤ numB t z ps w := by
  unfold numB
  split <;> omega
/-! ### a Number -/
def numFs (t : Nat) (z : Bool) : List (Str × V) := [(("what" : Str), numV t), (("ends" : Str), endsV z)]
def IsNum (H : Hp) (a C : Addr) (t : Nat) (z : Bool) : Prop := ∃ dx : Addr, H a = some (.ins C dx (numFs t z))
theorem IsNum.same {H H' : Hp} {a C : Addr} {t : Nat} {z : Bool} (h : IsNum H a C t z) (s : Same H H') : IsNum H' a C t z := by
  obtain ⟨dx, h1⟩ := h
  exact ⟨dx, s _ _ h1⟩
theorem numF_what (t : Nat) (z : Bool) : List.lookup ("what" : Str) (numFs t z) = some (numV t) := by simp [numFs, List.lookup]
theorem numF_ends (t : Nat) (z : Bool) : List.lookup ("ends" : Str) (numFs t z) = some (endsV z) := by
  have : (("ends" : Str) == ("what" : Str)) = false := by decide +kernel
  simp [numFs, List.lookup, this]
theorem numF_wished (t : Nat) (z : Bool) : List.lookup ("wished" : Str) (numFs t z) = none := by
  have h1 : (("wished" : Str) == ("what" : Str)) = false := by decide +kernel
  have h2 : (("wished" : Str) == ("ends" : Str)) = false := by decide +kernel
  simp [numFs, List.lookup, h1, h2]
theorem num_put (t : Nat) (z : Bool) : putF "ends" (endsV z) (putF "what" (numV t) []) = numFs t z := by
  have : ¬ (("what" : Str) = ("ends" : Str)) := by decide +kernel
  simp [putF, numFs, this]
/-! ### the law's expressions, read in short: slots a (the stretch), b (the window), c (the ends) -/
def tFullS (K : PySem.W.Frag) (a c : Nat) : TE := fun σ H Q => ∃ (t : Addr) (p : Pr) (z : Bool), σ[a]? = some (some (.ref t)) ∧ σ[c]? = some (some (endsV z)) ∧ SqT K H t [.int p.1, .int p.2] ∧ p.1 ≤ p.2 ∧ Q (.bl (!emp z p)) H
def tLeftS (K : PySem.W.Frag) (a b c : Nat) : TE := fun σ H Q => ∃ (t u : Addr) (p w : Pr) (z : Bool), σ[a]? = some (some (.ref t)) ∧ σ[b]? = some (some (.ref u)) ∧ σ[c]? = some (some (endsV z)) ∧ SqT K H t [.int p.1, .int p.2] ∧ SqT K H u [.int w.1, .int w.2] ∧ p.1 ≤ p.2 ∧ Q (.bl (hldB z p w.1)) H
def tWithS (K : PySem.W.Frag) (a b : Nat) : TE := fun σ H Q => ∃ (t u : Addr) (p w : Pr), σ[a]? = some (some (.ref t)) ∧ σ[b]? = some (some (.ref u)) ∧ SqT K H t [.int p.1, .int p.2] ∧ SqT K H u [.int w.1, .int w.2] ∧ Q (.bl (decide (w.1 ≤ p.1) && decide (p.2 ≤ w.2))) H
def rowsK (f : Bool) : List (Key × V) := [(Sum.inr ("all" : Str), .bl true), (Sum.inr ("full" : Str), .bl f)]
def rowsW (f l i m : Bool) : List (Key × V) := [(Sum.inr ("all" : Str), .bl true), (Sum.inr ("full" : Str), .bl f), (Sum.inr ("left" : Str), .bl l), (Sum.inr ("within" : Str), .bl i), (Sum.inr ("touched" : Str), .bl m)]
end Spk
namespace Spk
open PySem PySem.Spec PyProof.Rows L2
theorem emp_full_t {z : Bool} {p : Pr} (h : z = true) (le : p.1 ≤ p.2) : (!emp z p) = true := by
  subst h
  show (!decide (p.2 < p.1)) = true
  rw [decide_eq_false (by omega)]; rfl
theorem emp_full_f {z : Bool} {p : Pr} (h : ¬ z = true) : (!emp z p) = decide (p.1 < p.2) := by
  have : z = false := by cases z <;> simp_all
  subst this
  show (!decide (p.2 ≤ p.1)) = decide (p.1 < p.2)
  rw [Bool.eq_iff_iff]
  simp
theorem hld_in {z : Bool} {p : Pr} {i : Int} (h1 : p.1 ≤ i) (h2 : i < p.2) : hldB z p i = true := by
  unfold hldB
  cases z <;> simp <;> omega
theorem hld_out {z : Bool} {p : Pr} {i : Int} (h : ¬ p.1 ≤ i) (le : p.1 ≤ p.2) : (z && decide (V.int p.2 = V.int i)) = false ∧ hldB z p i = false := by
  have : ¬ p.2 = i := by omega
  unfold hldB
  rw [decide_eq_false h]
  exact ⟨by rw [decide_eq_false fun e => this (V.int.inj e)]; cases z <;> rfl, rfl⟩
theorem hld_end {z : Bool} {p : Pr} {i : Int} (h1 : p.1 ≤ i) (h2 : ¬ i < p.2) : hldB z p i = (z && decide (V.int p.2 = V.int i)) := by
  unfold hldB
  rw [Bool.eq_iff_iff]
  cases z <;> simp <;> omega
theorem merge_rows (f : Bool) : mergeK [] (rowsK f) = rowsK f := by cases f <;> decide +kernel
theorem put_rows (f l i m : Bool) : putK (putK (putK (rowsK f) (Sum.inr ("left" : Str)) (.bl l)) (Sum.inr ("within" : Str)) (.bl i)) (Sum.inr ("touched" : Str)) (.bl m) = rowsW f l i m := by
  cases f <;> cases l <;> cases i <;> cases m <;> decide +kernel
theorem val_rowsK {t : Nat} (h : t ≤ 1) (f : Bool) : valV (rowsK f) (Sum.inr (numS t)) = some (.bl (if t = 1 then f else true)) := by
  have : t = 0 ∨ t = 1 := by omega
  rcases this with rfl | rfl <;> cases f <;> decide +kernel
theorem val_rowsW {t : Nat} (h : t < 5) (f l i m : Bool) : valV (rowsW f l i m) (Sum.inr (numS t)) = some (.bl (if t = 1 then f else if t = 2 then l else if t = 3 then i else if t = 4 then m else true)) := by
  have : t = 0 ∨ t = 1 ∨ t = 2 ∨ t = 3 ∨ t = 4 := by omega
  rcases this with rfl | rfl | rfl | rfl | rfl <;> cases f <;> cases l <;> cases i <;> cases m <;> decide +kernel
end Spk

namespace Spk
open PySem PySem.Spec PyProof.Rows L2
/-! ### how often a moment is held, by the sorted changes -/
def turn1 (z : Bool) (p : Pr) : List Pr := if emp z p then [] else [(p.1, 1), (if z then p.2 + 1 else p.2, -1)]
def turnsM (z : Bool) (ps : List Pr) : List Pr := ps.flatMap (turn1 z)
/-- the sum of the steps up to a moment -/
def cM (ts : List Pr) (m : Int) : Int := ((ts.filter fun t => decide (t.1 ≤ m)).map (·.2)).sum
def sumK (ts : List Pr) : Int := (ts.map (·.2)).sum
theorem cM_app (ts us : List Pr) (m : Int) : cM (ts ++ us) m = cM ts m + cM us m := by
  unfold cM
  rw [List.filter_append, List.map_append, List.sum_append_int]
theorem cM_perm {ts us : List Pr} (h : ts.Perm us) (m : Int) : cM ts m = cM us m := by
  induction h with
  | nil => rfl
  | @cons x a b p ih =>
    have e1 : ∀ l, cM (x :: l) m = cM [x] m + cM l m := fun l => cM_app [x] l m
    rw [e1, e1 b, ih]
  | swap x y l =>
    have e1 : ∀ x y, cM (x :: y :: l) m = cM [x] m + (cM [y] m + cM l m) := fun x y => by
      rw [show x :: y :: l = [x] ++ ([y] ++ l) from rfl, cM_app, cM_app]
    rw [e1, e1 x y]; omega
  | trans p1 p2 h1 h2 => exact h1.trans h2
theorem cM_one (t : Pr) (m : Int) : cM [t] m = if t.1 ≤ m then t.2 else 0 := by
  unfold cM
  by_cases h : t.1 ≤ m
  · rw [if_pos h, List.filter_cons_of_pos (by simpa using h)]
    simp
  · rw [if_neg h, List.filter_cons_of_neg (by simpa using h)]
    simp
theorem cM_turn {z : Bool} {p : Pr} (h : p.1 ≤ p.2) (m : Int) : cM (turn1 z p) m = if hldB z p m then 1 else 0 := by
  unfold turn1 emp hldB
  cases z with
  | true =>
    rw [if_pos rfl, if_neg (by simp; omega)]
    rw [show ∀ a b : Pr, [a, b] = [a] ++ [b] from fun _ _ => rfl, cM_app, cM_one, cM_one]
    simp only [if_true, Bool.and_eq_true, decide_eq_true_eq]
    (repeat' split) <;> omega
  | false =>
    simp only [Bool.false_eq_true, if_false, decide_eq_true_eq, Bool.and_eq_true]
    by_cases c : p.2 ≤ p.1
    · rw [if_pos c, if_neg (by omega)]; rfl
    · rw [if_neg c, show ∀ a b : Pr, [a, b] = [a] ++ [b] from fun _ _ => rfl, cM_app, cM_one, cM_one]
      (repeat' split) <;> omega
theorem cM_turns {z : Bool} (m : Int) : ∀ {ps : List Pr}, (∀ p ∈ ps, p.1 ≤ p.2) → cM (turnsM z ps) m = ((ps.filter fun p => hldB z p m).length : Int)
  | [], _ => rfl
  | p :: r, h => by
    have ih := cM_turns (z := z) m (ps := r) fun q hq => h q (List.mem_cons_of_mem _ hq)
    rw [show turnsM z (p :: r) = turn1 z p ++ turnsM z r from rfl, cM_app, ih, cM_turn (h p List.mem_cons_self)]
    by_cases c : hldB z p m = true
    · rw [if_pos c, List.filter_cons_of_pos (by simpa using c), List.length_cons]; omega
    · rw [if_neg c, List.filter_cons_of_neg (by simpa using c)]; omega
theorem turns_len {z : Bool} : ∀ (ps : List Pr), (turnsM z ps).length ≤ 2 * ps.length
  | [] => Nat.le_refl _
  | p :: r => by
    have ih := turns_len (z := z) r
    rw [show turnsM z (p :: r) = turn1 z p ++ turnsM z r from rfl, List.length_append, List.length_cons]
    have : (turn1 z p).length ≤ 2 := by unfold turn1; split <;> simp
    omega
theorem turns_snoc {z : Bool} (ps : List Pr) (p : Pr) : turnsM z (ps ++ [p]) = turnsM z ps ++ turn1 z p := by
  unfold turnsM
  rw [List.flatMap_append]; simp
theorem cM_all {ts : List Pr} {m : Int} (h : ∀ t ∈ ts, t.1 ≤ m) : cM ts m = sumK ts := by
  unfold cM sumK
  rw [List.filter_eq_self.mpr fun t ht => by simpa using h t ht]
theorem cM_none {ts : List Pr} {m : Int} (h : ∀ t ∈ ts, m < t.1) : cM ts m = 0 := by
  unfold cM
  rw [List.filter_eq_nil_iff.mpr fun t ht => by have := h t ht; simp; omega]; rfl
/-- what the walk has passed is what the moment has passed -/
theorem cM_take {ts : List Pr} {m : Int} {k : Nat} (s : ts.Pairwise ple) (h1 : ∀ t ∈ ts.take k, t.1 ≤ m) (h2 : ∀ t, ts[k]? = some t → m < t.1) : sumK (ts.take k) = cM ts m := by
  have e := cM_app (ts.take k) (ts.drop k) m
  rw [List.take_append_drop] at e
  rw [e, cM_all h1, cM_none, Int.add_zero]
  intro t ht
  have hk : k < ts.length := by
    rcases Nat.lt_or_ge k ts.length with h | h
    · exact h
    · rw [List.drop_eq_nil_of_le h] at ht; cases ht
  have h0 := h2 _ (List.getElem?_eq_getElem hk)
  rw [List.drop_eq_getElem_cons hk] at ht
  rcases List.mem_cons.mp ht with rfl | ht
  · exact h0
  · have sp := (List.pairwise_iff_getElem.mp s)
    obtain ⟨i, hi, rfl⟩ := List.mem_iff_getElem.mp ht
    rw [List.getElem_drop]
    rw [List.length_drop] at hi
    have := sp k (k + 1 + i) hk (by omega) (by omega)
    unfold ple at this
    omega
theorem sumK_snoc (ts : List Pr) (t : Pr) : sumK (ts ++ [t]) = sumK ts + t.2 := by
  unfold sumK
  rw [List.map_append, List.sum_append_int]; simp
theorem srt_turns (z : Bool) {ps : List Pr} (h : ∀ p ∈ ps, p.1 ≤ p.2) (m : Int) : cM (srt (turnsM z ps)) m = ((ps.filter fun p => hldB z p m).length : Int) :=
  (cM_perm (srt_perm _) m).trans (cM_turns m h)
/-- how many stretches hold a moment -/
def hldN (z : Bool) (ps : List Pr) (m : Int) : Int := ((ps.filter fun p => hldB z p m).length : Int)
/-! ### which times are wished -/
/-- t: 0 some, 1 none, 2 all, 3 one, 4 two, 5 each -/
def wndB (t : Nat) (held many : Int) : Int := if t = 5 then held else if (if t = 0 then decide (0 < held) else if t = 1 then decide (held = 0) else if t = 2 then decide (held = many) else if t = 3 then decide (held = 1) else decide (1 < held)) = true then 1 else 0
def wndS (t : Nat) : Str := if t = 0 then "some" else if t = 1 then "none" else if t = 2 then "all" else if t = 3 then "one" else if t = 4 then "two" else if t = 5 then "each" else "inside"
def wndV (t : Nat) : V := .str (wndS t)
theorem wnd_is {t : Nat} (h : t < 6) (x : Str) (u : Nat) (e : decide (wndV 0 = .str x) = decide (0 = u) ∧ decide (wndV 1 = .str x) = decide (1 = u) ∧ decide (wndV 2 = .str x) = decide (2 = u) ∧ decide (wndV 3 = .str x) = decide (3 = u) ∧ decide (wndV 4 = .str x) = decide (4 = u) ∧ decide (wndV 5 = .str x) = decide (5 = u)) : decide (wndV t = .str x) = decide (t = u) :=
  six (P := fun t => decide (wndV t = .str x) = decide (t = u)) h e.1 e.2.1 e.2.2.1 e.2.2.2.1 e.2.2.2.2.1 e.2.2.2.2.2
theorem wnd_each {t : Nat} (h : t < 6) : decide (wndV t = .str "each") = decide (t = 5) := wnd_is h _ _ (by decide +kernel)
theorem wnd_some {t : Nat} (h : t < 6) : decide (wndV t = .str "some") = decide (t = 0) := wnd_is h _ _ (by decide +kernel)
theorem wnd_none {t : Nat} (h : t < 6) : decide (wndV t = .str "none") = decide (t = 1) := wnd_is h _ _ (by decide +kernel)
theorem wnd_all {t : Nat} (h : t < 6) : decide (wndV t = .str "all") = decide (t = 2) := wnd_is h _ _ (by decide +kernel)
theorem wnd_one {t : Nat} (h : t < 6) : decide (wndV t = .str "one") = decide (t = 3) := wnd_is h _ _ (by decide +kernel)
theorem wnd_inside {t : Nat} (h : t < 6) : decide (wndV t = .str "inside") = false := (wnd_is h _ 6 (by decide +kernel)).trans (decide_eq_false (by omega))
theorem mem_wnd {j : Nat} {x : V} (h : ([.str "some", .str "none", .str "all", .str "one", .str "two", .str "each"] : List V)[j]? = some x) : x = wndV j ∧ j < 6 := by
  match j, h with
  | 0, h => exact ⟨(Option.some.inj h).symm, by decide⟩
  | 1, h => exact ⟨(Option.some.inj h).symm, by decide⟩
  | 2, h => exact ⟨(Option.some.inj h).symm, by decide⟩
  | 3, h => exact ⟨(Option.some.inj h).symm, by decide⟩
  | 4, h => exact ⟨(Option.some.inj h).symm, by decide⟩
  | 5, h => exact ⟨(Option.some.inj h).symm, by decide⟩
  | (n + 6), h => exact absurd h (by simp)
theorem turn1_ne {z : Bool} {p : Pr} (h : emp z p = false) : turn1 z p = [(p.1, 1)] ++ [(if z then p.2 + 1 else p.2, -1)] := by
  unfold turn1; rw [if_neg (by rw [h]; decide)]; rfl
theorem turn1_em {z : Bool} {p : Pr} (h : emp z p = true) : turn1 z p = [] := by
  unfold turn1; rw [if_pos h]
/-! ### a walk over what stays, beside a list that grows -/
theorem sqK_app {K : PySem.W.Frag} {H H' : Hp} {L a : Addr} {xs us : List V} (s : Same H H') (hL : H' L = some (.lst us)) (h0 : xs = [] → us = []) : SqK K (upd H L (.lst [])) H' a xs := by
  by_cases c : a = L
  · subst c
    refine ⟨fun h => ?_, fun h => ?_⟩
    · rcases h with (h | ⟨o, h⟩) | h
      · rw [upd_same] at h
        have e : [] = xs := by injection h with h; injection h
        refine .inl (.inl ?_)
        rw [hL, h0 e.symm, e]
      · rw [upd_same] at h; cases h
      · exact .inr h
    · rcases h with (h | ⟨o, h⟩) | h
      · rw [upd_same] at h; cases h
      · rw [upd_same] at h; cases h
      · exact .inr h
  · refine ⟨fun h => ?_, fun h => ?_⟩
    · rcases h with (h | ⟨o, h⟩) | h
      · rw [upd_ne c] at h; exact .inl (.inl (s _ _ h))
      · rw [upd_ne c] at h; exact .inl (.inr ⟨o, s _ _ h⟩)
      · exact .inr h
    · rcases h with (h | ⟨o, h⟩) | h
      · rw [upd_ne c] at h; exact .inl (.inl (s _ _ h))
      · rw [upd_ne c] at h; exact .inl (.inr ⟨o, s _ _ h⟩)
      · exact .inr h
theorem Pd.nil {H : Hp} {us : List Addr} (h : Pd H us []) : us = [] := by
  cases us with
  | nil => rfl
  | cons _ _ => exact h.elim
/-- a pair behind a list, as a new tuple -/
theorem app_pair {H : Hp} {L T : Addr} {us : List Addr} {qs : List Pr} {x : Pr} (hL : H L = some (.lst (us.map V.ref))) (pu : Pd H us qs) (nT : H T = none) :
    (upd (upd H T (.tup [.int x.1, .int x.2])) L (.lst (us.map V.ref ++ [.ref T]))) L = some (.lst ((us ++ [T]).map V.ref)) ∧ Pd (upd (upd H T (.tup [.int x.1, .int x.2])) L (.lst (us.map V.ref ++ [.ref T]))) (us ++ [T]) (qs ++ [x]) := by
  refine ⟨by rw [upd_same, List.map_append]; rfl, ?_⟩
  have sT := Same.new (o := .tup [.int x.1, .int x.2]) nT
  have hL' := sT _ _ hL
  refine Pd.app (Pd.kp Kp.at_ (fun xs z => by rw [hL'] at z; cases z) (pu.same sT)) ⟨?_, trivial⟩
  rw [upd_ne (Ne.symm (ne_of_none hL nT)), upd_same]
theorem app_same {H0 H : Hp} {L T : Addr} {o u : HO} (s : Same H0 H) (nL : H0 L = none) (nT : H T = none) : Same H0 (upd (upd H T o) L u) := fun b w e => by
  rw [upd_ne (ne_of_none e nL), upd_ne (ne_of_none (s _ _ e) nT)]; exact s _ _ e
/-! ### events -/
abbrev Evt := Bool × Int
def evW (b : Bool) : V := .str (if b then "in" else "out")
def evP (e : Evt) : Bool := decide (-1000000000000000000000000000000 ≤ e.2) && decide (e.2 ≤ 1000000000000000000000000000000)
def Ev (H : Hp) : List Addr → List Evt → Prop
  | [], [] => True
  | t :: ts, e :: es => H t = some (.tup [evW e.1, .int e.2]) ∧ Ev H ts es
  | _, _ => False
theorem Ev.len {H : Hp} : ∀ {ts : List Addr} {ps : List Evt}, Ev H ts ps → ts.length = ps.length
  | [], [], _ => rfl
  | t :: ts, p :: ps, h => by simp [Ev.len h.2]
  | [], _ :: _, h => h.elim
  | _ :: _, [], h => h.elim
theorem Ev.same {H H' : Hp} (e : Same H H') : ∀ {ts : List Addr} {ps : List Evt}, Ev H ts ps → Ev H' ts ps
  | [], [], _ => trivial
  | t :: ts, p :: ps, h => ⟨e _ _ h.1, Ev.same e h.2⟩
  | [], _ :: _, h => h.elim
  | _ :: _, [], h => h.elim
theorem Ev.kp {q : Addr} {H H' : Hp} (e : Kp q H H') (hq : ∀ xs, H q ≠ some (.tup xs)) : ∀ {ts : List Addr} {ps : List Evt}, Ev H ts ps → Ev H' ts ps
  | [], [], _ => trivial
  | t :: ts, p :: ps, h => ⟨e _ _ (fun z => hq _ (z ▸ h.1)) h.1, Ev.kp e hq h.2⟩
  | [], _ :: _, h => h.elim
  | _ :: _, [], h => h.elim
theorem Ev.get {H : Hp} : ∀ {ts : List Addr} {ps : List Evt}, Ev H ts ps → ∀ {i : Nat} {t : Addr}, ts[i]? = some t → ∃ p, ps[i]? = some p ∧ H t = some (.tup [evW p.1, .int p.2])
  | [], [], _, i, t, h => by simp at h
  | t :: ts, p :: ps, h, 0, t', e => by
    simp at e; subst e
    exact ⟨p, rfl, h.1⟩
  | t :: ts, p :: ps, h, i + 1, t', e => by
    obtain ⟨q, h1, h2⟩ := Ev.get h.2 (i := i) (t := t') (by simpa using e)
    exact ⟨q, by simpa using h1, h2⟩
  | [], _ :: _, h, _, _, _ => h.elim
  | _ :: _, [], h, _, _, _ => h.elim
theorem Ev.app {H : Hp} : ∀ {ts : List Addr} {ps : List Evt} {us : List Addr} {qs : List Evt}, Ev H ts ps → Ev H us qs → Ev H (ts ++ us) (ps ++ qs)
  | [], [], _, _, _, h => h
  | t :: ts, p :: ps, _, _, h, k => ⟨h.1, Ev.app h.2 k⟩
  | [], _ :: _, _, _, h, _ => h.elim
  | _ :: _, [], _, _, h, _ => h.elim
theorem Ev.take {H : Hp} : ∀ {ts : List Addr} {ps : List Evt} (n : Nat), Ev H ts ps → Ev H (ts.take n) (ps.take n)
  | [], [], n, _ => by simp [Ev]
  | t :: ts, p :: ps, 0, _ => trivial
  | t :: ts, p :: ps, n + 1, h => ⟨h.1, Ev.take n h.2⟩
  | [], _ :: _, _, h => h.elim
  | _ :: _, [], _, h => h.elim
theorem Ev.drop {H : Hp} : ∀ {ts : List Addr} {ps : List Evt} (n : Nat), Ev H ts ps → Ev H (ts.drop n) (ps.drop n)
  | [], [], n, _ => by simp [Ev]
  | t :: ts, p :: ps, 0, h => h
  | t :: ts, p :: ps, n + 1, h => Ev.drop n h.2
  | [], _ :: _, _, h => h.elim
  | _ :: _, [], _, h => h.elim
def evD (e : Evt) : PyData := .tuple [.str (if e.1 then "in" else "out"), .int e.2]
theorem Ev.dp {K : PySem.W.Frag} {H : Hp} : ∀ {ts : List Addr} {ps : List Evt}, Ev H ts ps → DpAll K H (ts.map V.ref) (ps.map evD)
  | [], [], _ => .nil
  | t :: ts, p :: ps, h => .cons (.tup (SqT.hp h.1) (.cons (.str _) (.cons (.int _) .nil))) (Ev.dp h.2)
  | [], _ :: _, h => h.elim
  | _ :: _, [], h => h.elim
theorem evW_in (b : Bool) : decide (evW b = .str "in") = b := by cases b <;> decide +kernel
theorem evW_mem (b : Bool) : inV (evW b) [.str "in", .str "out"] = true := by cases b <;> decide +kernel
theorem evW_flat (b : Bool) : flatV (evW b) = true := by cases b <;> rfl
/-- the state behind the events up to a moment -/
def lastE (es : List Evt) : Bool := match es.getLast? with | some e => e.1 | none => false
def insE (es : List Evt) (m : Int) : Int := if lastE (es.filter fun e => decide (e.2 ≤ m)) = true then 1 else 0
theorem ev_filter {es : List Evt} {m : Int} {k : Nat} (s : es.Pairwise fun a b => a.2 ≤ b.2) (h1 : ∀ t ∈ es.take k, t.2 ≤ m) (h2 : ∀ t, es[k]? = some t → m < t.2) : (es.filter fun e => decide (e.2 ≤ m)) = es.take k := by
  have e := congrArg (List.filter fun e : Evt => decide (e.2 ≤ m)) (List.take_append_drop k es)
  rw [List.filter_append] at e
  rw [← e, List.filter_eq_self.mpr fun t ht => by simpa using h1 t ht, List.filter_eq_nil_iff.mpr, List.append_nil]
  intro t ht
  have hk : k < es.length := by
    rcases Nat.lt_or_ge k es.length with h | h
    · exact h
    · rw [List.drop_eq_nil_of_le h] at ht; cases ht
  have h0 := h2 _ (List.getElem?_eq_getElem hk)
  have gt : m < t.2 := by
    rw [List.drop_eq_getElem_cons hk] at ht
    rcases List.mem_cons.mp ht with rfl | ht
    · exact h0
    · have sp := List.pairwise_iff_getElem.mp s
      obtain ⟨i, hi, rfl⟩ := List.mem_iff_getElem.mp ht
      rw [List.getElem_drop]
      rw [List.length_drop] at hi
      have := sp k (k + 1 + i) hk (by omega) (by omega)
      omega
  simp only [decide_eq_true_eq]
  omega
theorem lastE_take {es : List Evt} {k : Nat} {e : Evt} (h : es[k]? = some e) : lastE (es.take (k + 1)) = e.1 := by
  unfold lastE
  rw [take_more h, List.getLast?_append]; rfl
theorem lastE_zero {es : List Evt} : lastE (es.take 0) = false := by rw [List.take_zero]; rfl
theorem rIxSq {K : PySem.W.Frag} {H : Hp} {a : Addr} {xs : List V} {i : Int} {v : V} {Q : VK} (sq : Sq K H a xs) (h : atI xs i = some v) (q : Q v H) : rIx K (.ref a) (.int i) H Q :=
  sq.elim (fun s => .inl ⟨a, xs, i, v, rfl, rfl, s, h, q⟩) (fun s => .inr (.inl ⟨a, xs, i, v, rfl, rfl, s, h, q⟩))
/-! ### a Moments -/
abbrev WTm : List V := [.str "some", .str "none", .str "all", .str "one", .str "two", .str "each", .str "inside"]
abbrev WFm : List V := [.str "any", .str "full", .str "one", .str "cut"]
theorem seven {P : Nat → Prop} {t : Nat} (h : t < 7) (h6 : t < 6 → P t) (h7 : P 6) : P t := by
  by_cases c : t < 6
  · exact h6 c
  · obtain rfl : t = 6 := by omega
    exact h7
theorem wnd_mem {t : Nat} (h : t < 7) : flatV (wndV t) = true ∧ inV (wndV t) WTm = true :=
  seven (P := fun t => flatV (wndV t) = true ∧ inV (wndV t) WTm = true) h (fun c => ⟨rfl, six (P := fun t => inV (wndV t) WTm = true) c (by decide +kernel) (by decide +kernel) (by decide +kernel) (by decide +kernel) (by decide +kernel) (by decide +kernel)⟩) (by decide +kernel)
theorem wnd_inside7 {t : Nat} (h : t < 7) : decide (wndV t = .str "inside") = decide (t = 6) :=
  seven (P := fun t => decide (wndV t = .str "inside") = decide (t = 6)) h (fun c => (wnd_inside c).trans (decide_eq_false (by omega)).symm) (by decide +kernel)
def momFs (t : Nat) (wi : Bool) (fm : Str) (z : Bool) : List (Str × V) := [(("which" : Str), wndV t), (("within" : Str), .bl wi), (("form" : Str), .str fm), (("ends" : Str), endsV z)]
def IsMom (H : Hp) (a C : Addr) (t : Nat) (wi : Bool) (fm : Str) (z : Bool) : Prop := ∃ dx : Addr, H a = some (.ins C dx (momFs t wi fm z))
theorem IsMom.same {H H' : Hp} {a C : Addr} {t : Nat} {wi : Bool} {fm : Str} {z : Bool} (h : IsMom H a C t wi fm z) (s : Same H H') : IsMom H' a C t wi fm z := by
  obtain ⟨dx, h1⟩ := h
  exact ⟨dx, s _ _ h1⟩
theorem mom_which (t : Nat) (wi : Bool) (fm : Str) (z : Bool) : List.lookup ("which" : Str) (momFs t wi fm z) = some (wndV t) := by simp [momFs, List.lookup]
theorem mom_within (t : Nat) (wi : Bool) (fm : Str) (z : Bool) : List.lookup ("within" : Str) (momFs t wi fm z) = some (.bl wi) := by
  have h1 : (("within" : Str) == ("which" : Str)) = false := by decide +kernel
  simp [momFs, List.lookup, h1]
theorem mom_form (t : Nat) (wi : Bool) (fm : Str) (z : Bool) : List.lookup ("form" : Str) (momFs t wi fm z) = some (.str fm) := by
  have h1 : (("form" : Str) == ("which" : Str)) = false := by decide +kernel
  have h2 : (("form" : Str) == ("within" : Str)) = false := by decide +kernel
  simp [momFs, List.lookup, h1, h2]
theorem mom_ends (t : Nat) (wi : Bool) (fm : Str) (z : Bool) : List.lookup ("ends" : Str) (momFs t wi fm z) = some (endsV z) := by
  have h1 : (("ends" : Str) == ("which" : Str)) = false := by decide +kernel
  have h2 : (("ends" : Str) == ("within" : Str)) = false := by decide +kernel
  have h3 : (("ends" : Str) == ("form" : Str)) = false := by decide +kernel
  simp [momFs, List.lookup, h1, h2, h3]
theorem mom_wanted (t : Nat) (wi : Bool) (fm : Str) (z : Bool) : List.lookup ("wanted" : Str) (momFs t wi fm z) = none := by
  have h1 : (("wanted" : Str) == ("which" : Str)) = false := by decide +kernel
  have h2 : (("wanted" : Str) == ("within" : Str)) = false := by decide +kernel
  have h3 : (("wanted" : Str) == ("form" : Str)) = false := by decide +kernel
  have h4 : (("wanted" : Str) == ("ends" : Str)) = false := by decide +kernel
  simp [momFs, List.lookup, h1, h2, h3, h4]
theorem mom_put (t : Nat) (wi : Bool) (fm : Str) (z : Bool) : putF "ends" (endsV z) (putF "form" (.str fm) (putF "within" (.bl wi) (putF "which" (wndV t) []))) = momFs t wi fm z := by
  have h1 : ¬ (("which" : Str) = ("within" : Str)) := by decide +kernel
  have h2 : ¬ (("which" : Str) = ("form" : Str)) := by decide +kernel
  have h3 : ¬ (("within" : Str) = ("form" : Str)) := by decide +kernel
  have h4 : ¬ (("which" : Str) = ("ends" : Str)) := by decide +kernel
  have h5 : ¬ (("within" : Str) = ("ends" : Str)) := by decide +kernel
  have h6 : ¬ (("form" : Str) = ("ends" : Str)) := by decide +kernel
  simp [putF, momFs, h1, h2, h3, h4, h5, h6]
structure MomC (K : PySem.W.Frag) (C : Addr) : Prop where
  cl : Cls K C
  nH : NoAttr K C "which"
  nW : NoAttr K C "within"
  nF : NoAttr K C "form"
  nE : NoAttr K C "ends"
/-- a class with a keyword-only part, made with all of it, with its last word alone, or with none of it -/
structure RdyMo (P : Program) (w : World) (K : PySem.W.Frag) (mg : Str → Option Value) (bh : Heap) (x : Str) (C : Addr) (k : Nat) (ps : List Str) (dvs : List V) (ks : List Str) (ms : List V) (sp : Sp) (f : Addr) (fd : FuncData) : Prop where
  ok : FnOk P w K mg bh CX0 k f fd ps sp
  mkr : Mk K C f
  gl : mg x = some (.ref C)
  bd1 : ∃ ds, Vals dvs ds ∧ Binds K fd ps ds
  kb : ∃ g, KBn K fd ps 2 ks g (fun vs zs => vs ++ zs)
  kb1 : ∃ g, KBn K fd ps 2 ["ends"] g (fun vs zs => vs ++ (ms ++ zs))
/-- what a Moments wants -/
def wtdT (t : Nat) (z : Bool) (ps : List Pr) (m : Int) : Int := wndB t (hldN z ps m) ps.length
def inW (wi z : Bool) (w : Pr) (m : Int) : Int := if wi then hldN z [w] m else 1
/-- len, the written part named (within a comprehension) -/
theorem call_lenK {X : Cx} {K : PySem.W.Frag} (h : X.K = K := by rfl) : CallR X (.builtin "len") (fun xs H Q => ∃ p ys, xs = [V.ref p] ∧ Sq K H p ys ∧ Q (.int ys.length) H) := h ▸ call_len_seq
theorem zipW (g h : Int → Int) : ∀ ms : List Int, List.zipWith (· * ·) (ms.map g) (ms.map h) = ms.map fun m => g m * h m
  | [] => rfl
  | m :: r => by simp [zipW g h r]
theorem hld1 (z : Bool) (w : Pr) (m : Int) : hldN z [w] m = if hldB z w m then 1 else 0 := by
  unfold hldN
  by_cases c : hldB z w m = true
  · simp [List.filter, c]
  · simp [List.filter, c]
theorem op_notInK {X : Cx} {K : PySem.W.Frag} (h : X.K = K := by rfl) : OpR X (compareOp .NotIn) (rIn K true) := h ▸ op_notIn_seq
/-- the law's own table of times -/
def rowsT (b0 b1 b2 b3 b4 : Bool) : List (Key × V) := [(Sum.inr ("some" : Str), .bl b0), (Sum.inr ("none" : Str), .bl b1), (Sum.inr ("all" : Str), .bl b2), (Sum.inr ("one" : Str), .bl b3), (Sum.inr ("two" : Str), .bl b4)]
theorem merge_rowsT (b0 b1 b2 b3 b4 : Bool) : mergeK [] (rowsT b0 b1 b2 b3 b4) = rowsT b0 b1 b2 b3 b4 := by cases b0 <;> cases b1 <;> cases b2 <;> cases b3 <;> cases b4 <;> decide +kernel
theorem val_rowsT {t : Nat} (h : t < 5) (b0 b1 b2 b3 b4 : Bool) : valV (rowsT b0 b1 b2 b3 b4) (Sum.inr (wndS t)) = some (.bl (if t = 0 then b0 else if t = 1 then b1 else if t = 2 then b2 else if t = 3 then b3 else b4)) := by
  have : t = 0 ∨ t = 1 ∨ t = 2 ∨ t = 3 ∨ t = 4 := by omega
  rcases this with rfl | rfl | rfl | rfl | rfl <;> cases b0 <;> cases b1 <;> cases b2 <;> cases b3 <;> cases b4 <;> decide +kernel
theorem sqK_kp {K : PySem.W.Frag} {H H' : Hp} {L a : Addr} {xs : List V} (k : Kp L H H') (c : a ≠ L) : SqK K H H' a xs := by
  refine ⟨fun h => ?_, fun h => ?_⟩
  · rcases h with (h | ⟨o, h⟩) | h
    · exact .inl (.inl (k _ _ c h))
    · exact .inl (.inr ⟨o, k _ _ c h⟩)
    · exact .inr h
  · rcases h with (h | ⟨o, h⟩) | h
    · exact .inl (.inl (k _ _ c h))
    · exact .inl (.inr ⟨o, k _ _ c h⟩)
    · exact .inr h
theorem flat_ints (ns : List Int) : (ns.map V.int).all flatV = true := by
  rw [List.all_map]
  exact List.all_eq_true.mpr fun _ _ => rfl
/-! ### a list that is kept sorted by insertion -/
theorem op_leTK {X : Cx} {K : PySem.W.Frag} (hu : X.A.units < cLine) (h : X.K = K := by rfl) : OpR X (compareOp .LtE) (rLeT K) := h ▸ op_leT hu
theorem lex2 (a b c d : Int) : Ob.lexAt (fun j => decide ([a, b].getD j 0 = [c, d].getD j 0)) (fun j => decide ([a, b].getD j 0 ≤ [c, d].getD j 0)) (decide ([a, b].length ≤ [c, d].length)) 0 (min [a, b].length [c, d].length) = decide (ple (a, b) (c, d)) := by
  show Ob.lexAt _ _ _ 0 2 = _
  unfold Ob.lexAt Ob.lexAt Ob.lexAt
  unfold ple
  simp
  by_cases h1 : a = c
  · by_cases h2 : b = d
    · simp [h1, h2]
    · simp [h1, h2]
  · simp [h1]
    omega
def cntL {α : Type} (κ : α → Pr) (l : List α) (k : Pr) : Nat := (l.filter fun x => decide (ple (κ x) k)).length
theorem ins_srt {α : Type} (κ : α → Pr) (e : α) : ∀ l : List α, l.Pairwise (fun x y => ple (κ x) (κ y)) → (l.take (cntL κ l (κ e)) ++ [e] ++ l.drop (cntL κ l (κ e))).Pairwise (fun x y => ple (κ x) (κ y))
  | [], _ => by simp [cntL]
  | x :: r, h => by
    obtain ⟨hx, hr⟩ := List.pairwise_cons.mp h
    by_cases c : ple (κ x) (κ e)
    · have e1 : cntL κ (x :: r) (κ e) = cntL κ r (κ e) + 1 := by
        unfold cntL
        rw [List.filter_cons_of_pos (by simpa using c), List.length_cons]
      rw [e1, List.take_succ_cons, List.drop_succ_cons, List.cons_append, List.cons_append]
      refine List.pairwise_cons.mpr ⟨fun y hy => ?_, ins_srt κ e r hr⟩
      rcases List.mem_append.mp hy with hy | hy
      · rcases List.mem_append.mp hy with hy | hy
        · exact hx y (List.mem_of_mem_take hy)
        · rw [List.mem_singleton.mp hy]; exact c
      · exact hx y (List.mem_of_mem_drop hy)
    · have e1 : cntL κ (x :: r) (κ e) = 0 := by
        unfold cntL
        rw [List.filter_eq_nil_iff.mpr]; rfl
        intro y hy
        rw [decide_eq_true_eq]
        rcases List.mem_cons.mp hy with rfl | hy
        · exact c
        · exact fun z => c (ple_trans (hx y hy) z)
      rw [e1, List.take_zero, List.drop_zero, List.nil_append, List.singleton_append]
      have ex : ple (κ e) (κ x) := by unfold ple at *; omega
      refine List.pairwise_cons.mpr ⟨fun y hy => ?_, h⟩
      rcases List.mem_cons.mp hy with rfl | hy
      · exact ex
      · exact ple_trans ex (hx y hy)
theorem cntL_le {α : Type} (κ : α → Pr) (l : List α) (k : Pr) : cntL κ l k ≤ l.length := List.length_filter_le ..
def lateK : List (Key × V) := [(Sum.inr ("at" : Str), .str "none"), (Sum.inr ("at in" : Str), .str "out"), (Sum.inr ("at out" : Str), .str "in")]
theorem merge_late : mergeK [] lateK = lateK := by decide +kernel
theorem late_of {w : Str} (h : w = "at" ∨ w = "at in" ∨ w = "at out") : ∃ lt : Str, valV lateK (Sum.inr w) = some (.str lt) := by
  rcases h with rfl | rfl | rfl
  · exact ⟨"none", by decide +kernel⟩
  · exact ⟨"out", by decide +kernel⟩
  · exact ⟨"in", by decide +kernel⟩
theorem cntL_snoc {α : Type} (κ : α → Pr) (l : List α) (x : α) (k : Pr) : cntL κ (l ++ [x]) k = cntL κ l k + (if decide (ple (κ x) k) = true then 1 else 0) := by
  unfold cntL
  rw [List.filter_append, List.length_append]
  by_cases c : ple (κ x) k
  · simp [List.filter, c]
  · simp [List.filter, c]
theorem lastE_snoc (l : List Evt) (e : Evt) (m : Int) : lastE ((l ++ [e]).filter fun e => decide (e.2 ≤ m)) = if decide (e.2 ≤ m) = true then e.1 else lastE (l.filter fun e => decide (e.2 ≤ m)) := by
  rw [List.filter_append]
  by_cases c : e.2 ≤ m
  · simp [List.filter, c, lastE]
  · simp [List.filter, c]
theorem insE_01 (es : List Evt) (m : Int) : insE es m = 0 ∨ insE es m = 1 := by
  unfold insE
  split
  · exact .inr rfl
  · exact .inl rfl
theorem reprI {u : Int} (h : u = 0 ∨ u = 1) : (PyData.int u).showable = true ∧ (PyData.int u).hasDict = false ∧ (PyData.int u).depth ≤ 64 ∧ (PyData.int u).shown.length ≤ sizeLine := by
  rcases h with rfl | rfl <;> decide +kernel
def evIn (i : Nat) : Str := if i = 0 then "at" else if i = 1 then "at in" else "at out"
theorem mem_ord {j : Nat} {x : V} (h : ([.str "at", .str "at in", .str "at out"] : List V)[j]? = some x) : ∃ w : Str, x = .str w ∧ (w = "at" ∨ w = "at in" ∨ w = "at out") := by
  match j, h with
  | 0, h => exact ⟨_, (Option.some.inj h).symm, .inl rfl⟩
  | 1, h => exact ⟨_, (Option.some.inj h).symm, .inr (.inl rfl)⟩
  | 2, h => exact ⟨_, (Option.some.inj h).symm, .inr (.inr rfl)⟩
theorem canLayEs : ∀ ps : List Evt, PyData.canLayAll0 (ps.map evD) = true
  | [] => rfl
  | p :: ps => by
    show (PyData.canLay0 (evD p) && PyData.canLayAll0 (ps.map evD)) = true
    rw [canLayEs ps]
    obtain ⟨b, i⟩ := p
    cases b <;> simp [evD, PyData.canLay0, PyData.canLayAll0] <;> decide +kernel
theorem depthEs : ∀ ps : List Evt, PyData.depthAll (ps.map evD) ≤ 1
  | [] => Nat.zero_le _
  | p :: ps => by
    have := depthEs ps
    show max (PyData.depth (evD p)) (PyData.depthAll (ps.map evD)) ≤ 1
    exact Nat.max_le.mpr ⟨by show PyData.depth (.tuple [.str _, .int p.2]) ≤ 1; simp [PyData.depth, PyData.depthAll], this⟩
theorem shapedEs (ps : List Evt) : SeqAt.shaped (.list (ps.map evD)) = true := by
  have h1 : PyData.canLay0 (.list (ps.map evD)) = true := canLayEs ps
  have h2 : PyData.depth (.list (ps.map evD)) ≤ 64 := by
    have := depthEs ps
    simp only [PyData.depth]; omega
  unfold SeqAt.shaped
  rw [h1, decide_eq_true h2]; rfl
theorem eqvEs : ∀ ps : List Evt, PyData.eqvAll (ps.map evD) (ps.map evD) = true
  | [] => rfl
  | p :: ps => by
    show (PyData.eqv (evD p) (evD p) && PyData.eqvAll (ps.map evD) (ps.map evD)) = true
    rw [eqvEs ps]
    obtain ⟨b, i⟩ := p
    show (((if b = true then ("in" : Str) else "out") == (if b = true then ("in" : Str) else "out")) && ((i == i) && true) && true) = true
    simp
theorem eqv_evs (ps : List Evt) : (!PyData.eqv (.list (ps.map evD)) (.list (ps.map evD))) = false := by
  rw [show PyData.eqv (.list (ps.map evD)) (.list (ps.map evD)) = true from eqvEs ps]; rfl
end Spk

namespace Spk
open PySem PySem.Spec PyProof.Rows L2
/-- a def that wants no repr under way, ready to be called -/
structure RdyG (P : Program) (w : World) (K : PySem.W.Frag) (mg : Str → Option Value) (bh : Heap) (x : Str) (k : Nat) (ps : List Str) (sp : Sp) (f : Addr) (fd : FuncData) : Prop where
  ok : FnG P w K mg bh k f fd ps sp
  gl : mg x = some (.ref f)
  kp : PySem.W.keepIn K (.ref f) = true
  bd : Binds K fd ps []
section
variable {X : Cx} {x : Str} {k j : Nat} {ps : List Str} {sp : Sp} {f : Addr} {fd : FuncData} {p pos : Pos} {e : Expr} {es : List Expr} {t : TA}
theorem pe_rdyG (R : RdyG X.prog X.w X.K X.mg X.base x k ps sp f fd) (gd : X.A.guards = some []) (rm : Room j X.A) (hj : k ≤ j) (hg : Gl X x) (ha : PA X (e :: es) t) (hdb : (x == ("__debug__" : Str)) = false := by decide)
    (he : starEach (e :: es) X.env = (false, eval e X.env) :: starEach es X.env := by rfl) (hpl : (backTo pos (starEach es X.env)).any (·.1) = false := by rfl) :
    PE X (.Call (.Name x p) (e :: es) [] pos) (tCall sp [] E0 t) := pe_callG R.ok gd (rm.mono hj) hg R.gl R.kp R.bd .nil ha hdb he hpl
end
/-- tuple(xs), the written part named (within a comprehension) -/
theorem call_tuple_ofK {X : Cx} {K : PySem.W.Frag} (h : X.K = K := by rfl) : CallR X (.type "tuple") (fun xs H Q => ∃ p ys, xs = [V.ref p] ∧ ((SqL K H p ys ∧ ∀ l, H l = none → Q (.ref l) (upd H l (.tup ys))) ∨ (SqT K H p ys ∧ Q (.ref p) H))) := h ▸ call_tuple_of
end Spk
namespace Spk
open PySem PySem.Spec PyProof.Rows L2
/-! ### lists of ints as data -/
theorem dpIs {K : PySem.W.Frag} {H : Hp} : ∀ ns : List Int, DpAll K H (ns.map V.int) (ns.map PyData.int)
  | [] => .nil
  | n :: ns => .cons (.int n) (dpIs ns)
theorem canLayIs : ∀ ns : List Int, PyData.canLayAll0 (ns.map PyData.int) = true
  | [] => rfl
  | n :: ns => by
    show (PyData.canLay0 (.int n) && PyData.canLayAll0 (ns.map PyData.int)) = true
    rw [canLayIs ns]; rfl
theorem depthIs : ∀ ns : List Int, PyData.depthAll (ns.map PyData.int) ≤ 1
  | [] => Nat.zero_le _
  | n :: ns => by
    have := depthIs ns
    show max (PyData.depth (.int n)) (PyData.depthAll (ns.map PyData.int)) ≤ 1
    exact Nat.max_le.mpr ⟨by simp [PyData.depth], this⟩
theorem shapedIs (ns : List Int) : SeqAt.shaped (.list (ns.map PyData.int)) = true := by
  have h1 : PyData.canLay0 (.list (ns.map PyData.int)) = true := canLayIs ns
  have h2 : PyData.depth (.list (ns.map PyData.int)) ≤ 64 := by
    have := depthIs ns
    simp only [PyData.depth]; omega
  unfold SeqAt.shaped
  rw [h1, decide_eq_true h2]; rfl
theorem eqvIs : ∀ ns : List Int, PyData.eqvAll (ns.map PyData.int) (ns.map PyData.int) = true
  | [] => rfl
  | n :: ns => by
    show (PyData.eqv (.int n) (.int n) && PyData.eqvAll (ns.map PyData.int) (ns.map PyData.int)) = true
    rw [eqvIs ns]
    show ((n == n) && true) = true
    simp
theorem eqv_is (ns : List Int) : (!PyData.eqv (.list (ns.map PyData.int)) (.list (ns.map PyData.int))) = false := by
  rw [show PyData.eqv (.list (ns.map PyData.int)) (.list (ns.map PyData.int)) = true from eqvIs ns]; rfl
/-- what a Moments wants, within the window or not -/
def wntI (wi z : Bool) (t : Nat) (ps : List Pr) (w : Pr) (m : Int) : Int := if wi then wtdT t z ps m * hldN z [w] m else wtdT t z ps m
end Spk
namespace Spk
open PySem PySem.Spec PyProof.Rows L2
theorem atI_end {α : Type} {xs : List α} (h : xs ≠ []) : ∃ v, v ∈ xs ∧ atI xs (-1) = some v := by
  refine ⟨xs.getLast h, List.getLast_mem h, ?_⟩
  have e := atI_last xs.dropLast (xs.getLast h)
  rw [List.dropLast_concat_getLast h] at e
  exact e
theorem atI_endI {ms : List Int} (h : ms ≠ []) : ∃ m, m ∈ ms ∧ atI (ms.map V.int) (-1) = some (.int m) := by
  obtain ⟨v, hv, e⟩ := atI_end (xs := ms.map V.int) (fun z => h (List.map_eq_nil_iff.mp z))
  obtain ⟨m, hm, rfl⟩ := List.mem_map.mp hv
  exact ⟨m, hm, e⟩
theorem mem_fm {j : Nat} {x : V} (h : ([.str "one", .str "full", .str "any"] : List V)[j]? = some x) : ∃ fm : Str, x = .str fm ∧ inV (.str fm) WFm = true ∧ decide (V.str fm = .str "cut") = false := by
  match j, h with
  | 0, h => exact ⟨_, (Option.some.inj h).symm, by decide +kernel, by decide +kernel⟩
  | 1, h => exact ⟨_, (Option.some.inj h).symm, by decide +kernel, by decide +kernel⟩
  | 2, h => exact ⟨_, (Option.some.inj h).symm, by decide +kernel, by decide +kernel⟩
theorem wnt_due {wi z : Bool} {t : Nat} {ps : List Pr} {w : Pr} {m : Int} : wntI wi z t ps w m = if (wi && !hldB z w m) = true then 0 else wtdT t z ps m := by
  unfold wntI
  rw [hld1]
  cases wi <;> cases hldB z w m <;> simp
theorem wtd_nil {t : Nat} (h : t < 6) (z : Bool) (m : Int) : wtdT t z [] m = if inV (wndV t) [.str "none", .str "all"] = true then 1 else 0 := by
  show wndB t 0 0 = _
  match t, h with
  | 0, _ => decide +kernel
  | 1, _ => decide +kernel
  | 2, _ => decide +kernel
  | 3, _ => decide +kernel
  | 4, _ => decide +kernel
  | 5, _ => decide +kernel
theorem wnt_nil {t : Nat} (h : t < 6) (wi z : Bool) (w : Pr) (m : Int) : wntI wi z t [] w m = if (inV (wndV t) [.str "none", .str "all"] && (!wi || hldB z w m)) = true then 1 else 0 := by
  rw [wnt_due, wtd_nil h]
  cases wi <;> cases hldB z w m <;> cases inV (wndV t) [.str "none", .str "all"] <;> rfl
end Spk

namespace Spk
open PySem PySem.Spec PyProof.Rows L2
/-! ### a staticmethod read off its class, called -/
/-- C.m is a staticmethod: its record at p, its def at g -/
structure SMet (K : PySem.W.Frag) (C : Addr) (mc : Value) (m : Str) (p g : Addr) : Prop where
  at_ : PySem.W.findCls K (.ref C) mc m = some (.get (.builtin "staticmethod.__get__") (.ref p) .none (.ref C))
  rc : ∃ rest, PySem.W.recIn K p "staticmethod" = some (.ref g :: rest)
  kp : PySem.W.keepIn K (.ref g) = true
section
variable {X : Cx} {pins : List (Addr × Obj)} {σ : L2.St} {H : Hp} {s : Shared} {C p g : Addr} {mc : Value} {m : Str} {A : Around} {E : Value → Shared → Prop}
theorem getmethsm_ok {pl : Sem Bool} {Q : Value × List Value → Shared → Prop} (I : Inv X pins σ H s) (r : ClX.CRead X.K C mc) (k : SMet X.K C mc m p g)
    (h : ∀ s', Inv X pins σ H s' → Q (.ref g, []) s') : wpAny (model X.prog X.w) A (getMethod (.ref C) m pl) Q E s := by
  obtain ⟨rest, hp⟩ := k.rc
  refine PySem.W.method_cls I.kIn r.ga (PySem.W.cls_bind I.kIn r.rd k.at_ ?_)
  exact wpAny_call (PySem.W.sm_get (s := { s with toks := s.toks + 1 }) I.kIn hp (PySem.W.handed_on rfl (h _ (I.tok _))))
end
/-- e.m(..), e the class at C, m a staticmethod -/
def tSMeth (C : Addr) (sp : Sp) (E : XK) (ta : TE) (t : TA) : TE := fun σ H Q => ta σ H fun x H1 => x = .ref C ∧ t σ H1 fun vs H2 => sp vs H2 Q E
section
variable {X : Cx} {CX : CXT} {k : Nat} {C p g : Addr} {mc : Value} {sp : Sp} {E : XK} {o e : Expr} {es : List Expr} {m : Str} {pos apos : Pos} {ta : TE} {t : TA} {pl : Sem Bool}
theorem pe_smeth (he : PE X o ta) (r : ClX.CRead X.K C mc) (c : SMet X.K C mc m p g) (F : FnR X.prog X.w X.K X.mg X.base CX k g sp) (hr : Room k X.A) (hx : Passes CX X E) (ha : PA X (e :: es) t)
    (hst : starEach (e :: es) X.env = (false, eval e X.env) :: starEach es X.env := by rfl) (hpl : (backTo pos (starEach es X.env)).any (·.1) = false := by rfl)
    (ht : eval (.Call (.Attribute o m apos) (e :: es) [] pos) X.env = (do
      let ov ← eval o X.env
      standAt apos.atName
      let (f, first) ← holding [ov] (getMethod ov m pl)
      callWith pos f first (backTo pos (starEach (e :: es) X.env)) (backToKw pos (keywordEach [] X.env))) := by rfl) :
    PE X (.Call (.Attribute o m apos) (e :: es) [] pos) (tSMeth C sp E ta t) := by
  refine ⟨fun pins s σ H Q I h => ?_⟩
  refine PySem.W.methodCall_KW (pl := pl) (thn (he.run pins s σ H _ I h) fun u s1 ⟨x, H1, I1, rx, ex, q⟩ => ?_) ht
  subst ex
  obtain rfl : u = Value.ref C := rx
  refine getmethsm_ok I1 r c fun s2 I2 => ?_
  refine PySem.W.callWith_K (first := []) (h₀ := X.base) I.ok.mod.kin c.kp (thn (ha.run pos pins s2 σ H1 _ I2 q) fun us s3 ⟨vs, H2, I3, rv, q2⟩ => ⟨I3.kIn, ?_⟩) hst hpl
  exact wpAny_call (run_fnR F hr hx I3 rv q2)
end
/-! ### C( *e), C's __init__ by a positional promise -/
def tMakeS (K : PySem.W.Frag) (C : Addr) (sp : Sp) (E : XK) (te : TE) : TE := fun σ H Q => te σ H fun y H1 => ∃ a xs, y = V.ref a ∧ (SqT K H1 a xs ∨ SqL K H1 a xs) ∧ ∀ x dx, H1 x = Option.none → H1 dx = Option.none → dx ≠ x →
  sp (V.ref x :: xs) (upd (upd H1 dx (.own x)) x (.ins C dx [])) (fun v H2 => v = .non ∧ Q (.ref x) H2) E
section
variable {X : Cx} {CX : CXT} {k : Nat} {f C : Addr} {sp : Sp} {E : XK} {x : Str} {e : Expr} {te : TE} {p pos sp_ : Pos}
theorem pe_makeS (M : Mk X.K C f) (F : FnR X.prog X.w X.K X.mg X.base CX k f sp) (hr : Room (k + 1) X.A) (hg : Gl X x) (hm : X.mg x = some (.ref C)) (hx : Passes CX X E) (he : PE X e te) (hd : (x == ("__debug__" : Str)) = false := by decide)
    (hst : starEach [.Starred e sp_] X.env = [(true, eval e X.env)] := by rfl) : PE X (.Call (.Name x p) [.Starred e sp_] [] pos) (tMakeS X.K C sp E te) := by
  refine ⟨fun pins s σ H Q I h => ?_⟩
  refine wpAny_Call_Name_kw (ld_glob I hg hm ?_ hd)
  refine PySem.W.callWith_S (h₀ := X.base) I.ok.mod.kin M.kp (thn (he.run pins s σ H _ I h) fun v s1 ⟨y, H1, I1, ry, a, xs, ey, hxs, q⟩ => ?_) hst
  subst ey
  obtain rfl : v = Value.ref a := ry
  exact StX.star_any I1 hxs fun us s2 I2 rv => ⟨I2.kIn, StX.run_makeR M F hr hx I2 rv q⟩
end
/-! ### such defs ready to be used -/
/-- a staticmethod -/
structure RdyS (P : Program) (w : World) (K : PySem.W.Frag) (mg : Str → Option Value) (bh : Heap) (x : Str) (C : Addr) (m : Str) (k : Nat) (sp : Sp) (g : Addr) : Prop where
  ok : FnR P w K mg bh CX0 k g sp
  gl : mg x = some (.ref C)
  rd : ∃ mc p, ClX.CRead K C mc ∧ SMet K C mc m p g
/-- a class made of given values, without defaults -/
structure RdyMp (P : Program) (w : World) (K : PySem.W.Frag) (mg : Str → Option Value) (bh : Heap) (x : Str) (C : Addr) (k : Nat) (ps : List Str) (sp : Sp) (f : Addr) (fd : FuncData) : Prop where
  ok : FnOk P w K mg bh CX0 k f fd ps sp
  mkr : Mk K C f
  gl : mg x = some (.ref C)
  bd : Binds K fd ps []
/-- a class made of any number of values -/
structure RdyMs (P : Program) (w : World) (K : PySem.W.Frag) (mg : Str → Option Value) (bh : Heap) (x : Str) (C : Addr) (k : Nat) (sp : Sp) (f : Addr) : Prop where
  ok : FnR P w K mg bh CX0 k f sp
  mkr : Mk K C f
  gl : mg x = some (.ref C)
/-- a method that may raise, without defaults -/
structure RdyMx (P : Program) (w : World) (K : PySem.W.Frag) (mg : Str → Option Value) (bh : Heap) (C : Addr) (m : Str) (k : Nat) (ps : List Str) (sp : Sp) (f : Addr) (fd : FuncData) : Prop where
  ok : FnOk P w K mg bh (L2.CX P w) k f fd ps sp
  mt : Meth K C m f
  bd : Binds K fd ps []
section
variable {X : Cx} {k j : Nat} {C f : Addr} {fd : FuncData} {ps : List Str} {sp : Sp} {x m : Str} {e : Expr} {es : List Expr} {te : TE} {t : TA} {p pos apos sp_ : Pos}
theorem pe_rdyS {pl : Sem Bool} (R : RdyS X.prog X.w X.K X.mg X.base x C m k sp f) (rm : Room j X.A) (hj : k ≤ j) (hg : Gl X x) (ha : PA X (e :: es) t)
    (hst : starEach (e :: es) X.env = (false, eval e X.env) :: starEach es X.env := by rfl) (hpl : (backTo pos (starEach es X.env)).any (·.1) = false := by rfl)
    (ht : eval (.Call (.Attribute (.Name x p) m apos) (e :: es) [] pos) X.env = (do
      let ov ← eval (.Name x p) X.env
      standAt apos.atName
      let (f, first) ← holding [ov] (getMethod ov m pl)
      callWith pos f first (backTo pos (starEach (e :: es) X.env)) (backToKw pos (keywordEach [] X.env))) := by rfl)
    (hdb : (x == ("__debug__" : Str)) = false := by decide) : PE X (.Call (.Attribute (.Name x p) m apos) (e :: es) [] pos) (fun σ H Q => t σ H fun vs H2 => sp vs H2 Q E0) := by
  obtain ⟨mc, q, r, c⟩ := R.rd
  have z := pe_smeth (E := E0) (pl := pl) (pe_glob (v := .ref C) (pos := p) hg R.gl rfl hdb) r c R.ok (rm.mono hj) pass0 ha hst hpl ht
  exact ⟨fun pins s σ H Q I h => z.run pins s σ H Q I ⟨rfl, h⟩⟩
theorem pe_rdyMp (R : RdyMp X.prog X.w X.K X.mg X.base x C k ps sp f fd) (rm : Room j X.A) (hj : k + 1 ≤ j) (hg : Gl X x) (ha : PA X (e :: es) t) (hdb : (x == ("__debug__" : Str)) = false := by decide)
    (he : starEach (e :: es) X.env = (false, eval e X.env) :: starEach es X.env := by rfl) (hpl : (backTo pos (starEach es X.env)).any (·.1) = false := by rfl) :
    PE X (.Call (.Name x p) (e :: es) [] pos) (tMake C sp [] E0 t) := pe_make R.mkr R.ok (rm.mono hj) hg R.gl R.bd .nil pass0 ha hdb he hpl
theorem pe_rdyMs (R : RdyMs X.prog X.w X.K X.mg X.base x C k sp f) (rm : Room j X.A) (hj : k + 1 ≤ j) (hg : Gl X x) (he : PE X e te) (hdb : (x == ("__debug__" : Str)) = false := by decide)
    (hst : starEach [.Starred e sp_] X.env = [(true, eval e X.env)] := by rfl) : PE X (.Call (.Name x p) [.Starred e sp_] [] pos) (tMakeS X.K C sp E0 te) := pe_makeS R.mkr R.ok (rm.mono hj) hg R.gl pass0 he hdb hst
end
end Spk

/-! the begins that no other stretch reaches, the ends beyond which none goes: those of the union -/
namespace Spk
theorem strict_uniq : ∀ {l m : List Int}, l.Pairwise (· < ·) → m.Pairwise (· < ·) → (∀ k, k ∈ l ↔ k ∈ m) → l = m
  | [], [], _, _, _ => rfl
  | [], b :: m, _, _, h => absurd ((h b).mpr List.mem_cons_self) List.not_mem_nil
  | a :: l, [], _, _, h => absurd ((h a).mp List.mem_cons_self) List.not_mem_nil
  | a :: l, b :: m, hl, hm, h => by
    obtain ⟨l1, l2⟩ := List.pairwise_cons.mp hl
    obtain ⟨m1, m2⟩ := List.pairwise_cons.mp hm
    have e : a = b := by
      rcases List.mem_cons.mp ((h a).mp List.mem_cons_self) with e | e
      · exact e
      · rcases List.mem_cons.mp ((h b).mpr List.mem_cons_self) with e' | e'
        · exact e'.symm
        · have := m1 a e; have := l1 b e'; omega
    subst e
    refine congrArg (a :: ·) (strict_uniq l2 m2 fun k => ⟨fun hk => ?_, fun hk => ?_⟩)
    · rcases List.mem_cons.mp ((h k).mp (List.mem_cons_of_mem _ hk)) with e | e
      · have := l1 k hk; omega
      · exact e
    · rcases List.mem_cons.mp ((h k).mpr (List.mem_cons_of_mem _ hk)) with e | e
      · have := m1 k hk; omega
      · exact e
theorem gapd_pw2 : ∀ {l : List Pr}, gapd l = true → (∀ q ∈ l, q.1 ≤ q.2) → l.Pairwise fun a b => a.2 < b.1
  | [], _, _ => .nil
  | p :: r, h, hq => List.pairwise_cons.mpr ⟨gapd_lt h fun q m => hq q (List.mem_cons_of_mem _ m), gapd_pw2 (gapd_tail h) fun q m => hq q (List.mem_cons_of_mem _ m)⟩
theorem oneF_pw {z : Bool} {l : List Pr} (h : oneF z l = true) : l.Pairwise fun a b => a.2 < b.1 := gapd_pw2 (by unfold oneF at h; rw [Bool.and_eq_true] at h; exact h.2) (oneF_le h)
theorem oneF_full {z : Bool} {l : List Pr} (h : oneF z l = true) : ∀ p ∈ l, emp z p = false := fun p hp => by
  unfold oneF at h
  rw [Bool.and_eq_true, List.all_eq_true] at h
  simpa using h.1 p hp
theorem pw_two : ∀ {l : List Pr}, (l.Pairwise fun a b => a.2 < b.1) → ∀ {p q : Pr}, p ∈ l → q ∈ l → p = q ∨ p.2 < q.1 ∨ q.2 < p.1
  | c :: _, h, p, q, hp, hq => by
    obtain ⟨h1, h2⟩ := List.pairwise_cons.mp h
    rcases List.mem_cons.mp hp with e1 | hp
    · rcases List.mem_cons.mp hq with e2 | hq
      · exact .inl (e1.trans e2.symm)
      · exact .inr (.inl (e1 ▸ h1 q hq))
    · rcases List.mem_cons.mp hq with e2 | hq
      · exact .inr (.inr (e2 ▸ h1 p hp))
      · exact pw_two h2 hp hq
def uncB (l : List Pr) (b : Int) : Bool := decide ((l.filter fun o => decide (o.1 < b) && decide (b ≤ o.2)) = [])
def uncE (l : List Pr) (e : Int) : Bool := decide ((l.filter fun o => decide (o.1 ≤ e) && decide (e < o.2)) = [])
theorem filter_no {l : List Pr} {f : Pr → Bool} : l.filter f = [] ↔ ¬ ∃ o ∈ l, f o = true := by
  rw [List.filter_eq_nil_iff]
  exact ⟨fun h ⟨o, ho, e⟩ => h o ho e, fun h o ho e => h ⟨o, ho, e⟩⟩
theorem uncB_iff (z : Bool) {l : List Pr} {b : Int} : uncB l b = true ↔ ¬ cov z l (2 * b - 1) := by
  unfold uncB
  rw [decide_eq_true_eq, filter_no]
  refine not_congr ⟨fun ⟨o, ho, e⟩ => ⟨o, ho, ?_⟩, fun ⟨o, ho, e⟩ => ⟨o, ho, ?_⟩⟩
  · simp only [Bool.and_eq_true, decide_eq_true_eq] at e
    unfold covP; split <;> omega
  · unfold covP at e
    simp only [Bool.and_eq_true, decide_eq_true_eq]
    split at e <;> omega
theorem uncE_iff (z : Bool) {l : List Pr} {e : Int} : uncE l e = true ↔ ¬ cov z l (2 * e + (if z then 1 else 0)) := by
  unfold uncE
  rw [decide_eq_true_eq, filter_no]
  refine not_congr ⟨fun ⟨o, ho, h⟩ => ⟨o, ho, ?_⟩, fun ⟨o, ho, h⟩ => ⟨o, ho, ?_⟩⟩
  · simp only [Bool.and_eq_true, decide_eq_true_eq] at h
    unfold covP; cases z <;> simp <;> omega
  · unfold covP at h
    simp only [Bool.and_eq_true, decide_eq_true_eq]
    cases z <;> simp at h ⊢ <;> omega
def begL (l : List Pr) : List Int := (l.filter fun p => uncB l p.1).map (·.1)
def endL (l : List Pr) : List Int := (l.filter fun p => uncE l p.2).map (·.2)
theorem mem_begL {z : Bool} {l : List Pr} (hl : ∀ p ∈ l, emp z p = false) {k : Int} : k ∈ begL l ↔ cov z l (2 * k) ∧ ¬ cov z l (2 * k - 1) := by
  constructor
  · intro h
    obtain ⟨p, hp, rfl⟩ := List.mem_map.mp h
    obtain ⟨hp, hu⟩ := List.mem_filter.mp hp
    exact ⟨⟨p, hp, full_cov (hl p hp)⟩, (uncB_iff z).mp hu⟩
  · rintro ⟨⟨p, hp, c1, c2⟩, hn⟩
    have e : p.1 = k := Classical.byContradiction fun ne => hn ⟨p, hp, by omega, by omega⟩
    subst e
    exact List.mem_map.mpr ⟨p, List.mem_filter.mpr ⟨hp, (uncB_iff z).mpr hn⟩, rfl⟩
theorem mem_endL {z : Bool} {l : List Pr} (hl : ∀ p ∈ l, emp z p = false) {k : Int} : k ∈ endL l ↔ cov z l (2 * k - 1 + (if z then 1 else 0)) ∧ ¬ cov z l (2 * k + (if z then 1 else 0)) := by
  constructor
  · intro h
    obtain ⟨p, hp, rfl⟩ := List.mem_map.mp h
    obtain ⟨hp, hu⟩ := List.mem_filter.mp hp
    refine ⟨⟨p, hp, ?_⟩, (uncE_iff z).mp hu⟩
    have := hl p hp
    unfold emp at this
    unfold covP
    cases z <;> simp at this ⊢ <;> omega
  · rintro ⟨⟨p, hp, c1, c2⟩, hn⟩
    have e : p.2 = k := Classical.byContradiction fun ne => hn ⟨p, hp, by omega, by omega⟩
    subst e
    exact List.mem_map.mpr ⟨p, List.mem_filter.mpr ⟨hp, (uncE_iff z).mpr hn⟩, rfl⟩
theorem begL_one {z : Bool} {l : List Pr} (h : oneF z l = true) : begL l = l.map (·.1) := by
  unfold begL
  rw [List.filter_eq_self.mpr]
  intro p hp
  rw [uncB_iff z]
  rintro ⟨q, hq, c1, c2⟩
  have lp := oneF_le h p hp
  rcases pw_two (oneF_pw h) hp hq with rfl | g | g
  · omega
  · omega
  · split at c2 <;> omega
theorem endL_one {z : Bool} {l : List Pr} (h : oneF z l = true) : endL l = l.map (·.2) := by
  unfold endL
  rw [List.filter_eq_self.mpr]
  intro p hp
  rw [uncE_iff z]
  rintro ⟨q, hq, c1, c2⟩
  have lp := oneF_le h p hp
  have lq := oneF_le h q hq
  rcases pw_two (oneF_pw h) hp hq with rfl | g | g
  · omega
  · split at c1 <;> omega
  · split at c2 <;> omega
abbrev fullOf (z : Bool) (ps : List Pr) : List Pr := ps.filter fun p => !emp z p
theorem full_mem {z : Bool} {ps : List Pr} : ∀ p ∈ fullOf z ps, emp z p = false := fun p hp => by simpa using (List.mem_filter.mp hp).2
theorem beg_union {z : Bool} {ps : List Pr} {ns : List Int} (h1 : ns.Pairwise (· < ·)) (h2 : ∀ k, k ∈ ns ↔ k ∈ begL (fullOf z ps)) : ns = (unionM z ps).map (·.1) := by
  have o := union_one z ps
  refine strict_uniq h1 ?_ fun k => ?_
  · rw [List.pairwise_map]
    exact (oneF_pw o).imp_of_mem fun ha hb h => by have := oneF_le o _ ha; omega
  · rw [h2, ← begL_one o, mem_begL (z := z) full_mem, mem_begL (z := z) (oneF_full o), cov_filter, cov_filter, cov_union, cov_union]
theorem end_union {z : Bool} {ps : List Pr} {ns : List Int} (h1 : ns.Pairwise (· < ·)) (h2 : ∀ k, k ∈ ns ↔ k ∈ endL (fullOf z ps)) : ns = (unionM z ps).map (·.2) := by
  have o := union_one z ps
  refine strict_uniq h1 ?_ fun k => ?_
  · rw [List.pairwise_map]
    exact (oneF_pw o).imp_of_mem fun ha hb h => by have := oneF_le o _ hb; omega
  · rw [h2, ← endL_one o, mem_endL (z := z) full_mem, mem_endL (z := z) (oneF_full o), cov_filter, cov_filter, cov_union, cov_union]
theorem hld_cov {z : Bool} {p : Pr} {m : Int} : hldB z p m = true ↔ covP z p (2 * m) := by
  unfold hldB covP
  cases z <;> simp <;> omega
theorem hld_any {z : Bool} {ps : List Pr} {m : Int} : (ps.filter fun p => hldB z p m) = [] ↔ ¬ cov z ps (2 * m) := by
  rw [filter_no]
  exact not_congr ⟨fun ⟨o, ho, e⟩ => ⟨o, ho, hld_cov.mp e⟩, fun ⟨o, ho, e⟩ => ⟨o, ho, hld_cov.mpr e⟩⟩
theorem hld_le1 {z : Bool} {l : List Pr} (h : oneF z l = true) (m : Int) : (l.filter fun p => hldB z p m).length ≤ 1 := by
  have pw := (oneF_pw h).filter fun p => hldB z p m
  have all : ∀ p ∈ l.filter (fun p => hldB z p m), covP z p (2 * m) := fun p hp => hld_cov.mp (List.mem_filter.mp hp).2
  match hf : l.filter (fun p => hldB z p m), pw, all with
  | [], _, _ => exact Nat.zero_le _
  | [_], _, _ => exact Nat.le_refl _
  | a :: b :: r, pw, all =>
    have g := (List.pairwise_cons.mp pw).1 b List.mem_cons_self
    obtain ⟨_, c2⟩ := all a List.mem_cons_self
    obtain ⟨c3, _⟩ := all b (List.mem_cons_of_mem _ List.mem_cons_self)
    exfalso
    split at c2 <;> omega
/-- a moment is held by one pair of the union, if some stretch holds it, else by none -/
theorem hld_union {z : Bool} {ps : List Pr} (m : Int) : (((unionM z ps).filter fun p => hldB z p m).length : Int) = if (!decide ((ps.filter fun p => hldB z p m) = [])) = true then 1 else 0 := by
  have l1 := hld_le1 (union_one z ps) m
  by_cases c : cov z ps (2 * m)
  · have h1 : (ps.filter fun p => hldB z p m) ≠ [] := fun e => hld_any.mp e c
    have h2 : ((unionM z ps).filter fun p => hldB z p m) ≠ [] := fun e => hld_any.mp e ((cov_union z ps _).mpr c)
    have : 0 < ((unionM z ps).filter fun p => hldB z p m).length := List.length_pos_iff.mpr h2
    rw [decide_eq_false h1, if_pos (show (!false) = true from rfl)]
    omega
  · have h1 : (ps.filter fun p => hldB z p m) = [] := hld_any.mpr c
    have h2 : ((unionM z ps).filter fun p => hldB z p m) = [] := hld_any.mpr fun e => c ((cov_union z ps _).mp e)
    rw [h1, h2]
    rfl
end Spk
namespace Spk
open PySem PySem.Spec PyProof.Rows L2
theorem kitLst (ds : List PyData) : kitB (tyN (.list ds)) "list" = some true := by
  show kitB "list" "list" = some true
  decide +kernel
theorem Pd.ofAt {H : Hp} : ∀ {ts : List Addr} {ps : List Pr}, ts.length = ps.length → (∀ (i : Nat) t p, ts[i]? = some t → ps[i]? = some p → H t = some (.tup [.int p.1, .int p.2])) → Pd H ts ps
  | [], [], _, _ => trivial
  | t :: ts, p :: ps, l, h => ⟨h 0 t p rfl rfl, Pd.ofAt (by simpa using l) fun i t' p' h1 h2 => h (i + 1) t' p' (by simpa using h1) (by simpa using h2)⟩
  | [], _ :: _, l, _ => by simp at l
  | _ :: _, [], l, _ => by simp at l
theorem upd_free {H : Hp} {a r : Addr} {o : HO} (h : (upd H a o) r = none) : H r = none := by
  by_cases e : r = a
  · rw [e, upd_same] at h
    cases h
  · rwa [upd_ne e] at h
theorem emp_full {z : Bool} {p : Pr} (h : p.1 < p.2 ∨ z = true) (le : p.1 ≤ p.2) : emp z p = false := by
  unfold emp
  rcases h with h | h
  · cases z <;> simp <;> omega
  · subst h; simp; omega
theorem emp_not {z : Bool} {p : Pr} (h : ¬ p.1 < p.2) (hz : ¬ z = true) : emp z p = true := by
  have hz : z = false := by simpa using hz
  subst hz
  unfold emp
  simp; omega
abbrev bgs (F : List Pr) (i : Nat) : List Int := ((F.take i).filter fun p => uncB F p.1).map (·.1)
abbrev ens (F : List Pr) (i : Nat) : List Int := ((F.take i).filter fun p => uncE F p.2).map (·.2)
theorem bgs_len {F : List Pr} {i : Nat} : (bgs F i).length ≤ F.length := by
  rw [List.length_map]; exact Nat.le_trans (List.length_filter_le ..) (List.length_take_le' ..)
theorem ens_len {F : List Pr} {i : Nat} : (ens F i).length ≤ F.length := by
  rw [List.length_map]; exact Nat.le_trans (List.length_filter_le ..) (List.length_take_le' ..)
theorem bgs_yes {F : List Pr} {i : Nat} {p : Pr} (h : F[i]? = some p) (c : uncB F p.1 = true) : bgs F (i + 1) = bgs F i ++ [p.1] := by
  unfold bgs
  rw [take_more h, List.filter_append, List.filter_cons_of_pos (p := fun p : Pr => uncB F p.1) c, List.map_append]; rfl
theorem bgs_no {F : List Pr} {i : Nat} {p : Pr} (h : F[i]? = some p) (c : ¬ uncB F p.1 = true) : bgs F (i + 1) = bgs F i := by
  unfold bgs
  rw [take_more h, List.filter_append, List.filter_cons_of_neg (p := fun p : Pr => uncB F p.1) c, List.filter_nil, List.append_nil]
theorem ens_yes {F : List Pr} {i : Nat} {p : Pr} (h : F[i]? = some p) (c : uncE F p.2 = true) : ens F (i + 1) = ens F i ++ [p.2] := by
  unfold ens
  rw [take_more h, List.filter_append, List.filter_cons_of_pos (p := fun p : Pr => uncE F p.2) c, List.map_append]; rfl
theorem ens_no {F : List Pr} {i : Nat} {p : Pr} (h : F[i]? = some p) (c : ¬ uncE F p.2 = true) : ens F (i + 1) = ens F i := by
  unfold ens
  rw [take_more h, List.filter_append, List.filter_cons_of_neg (p := fun p : Pr => uncE F p.2) c, List.filter_nil, List.append_nil]
/-- a filter in a comprehension: one more pair is taken -/
theorem keep_more {H0 H4 : Hp} {D t : Addr} {us : List Addr} {f : Pr → Bool} {p : Pr} {i : Nat} {ps : List Pr} (ss : Same H0 H4) (nD : H0 D = none) (hD : H4 D = some (.lst (us.map V.ref))) (pu : Pd H4 us ((ps.take i).filter f)) (et : H4 t = some (.tup [.int p.1, .int p.2])) (hp : ps[i]? = some p) (c : f p = true) :
    ∃ us', Same H0 (upd H4 D (.lst (us.map V.ref ++ [.ref t]))) ∧ (upd H4 D (.lst (us.map V.ref ++ [.ref t]))) D = some (.lst (us'.map V.ref)) ∧ Pd (upd H4 D (.lst (us.map V.ref ++ [.ref t]))) us' ((ps.take (i + 1)).filter f) := by
  have nDt : D ≠ t := ne_of hD et (fun z => nomatch z)
  refine ⟨us ++ [t], fun b o hb => by rw [upd_ne (ne_of_none hb nD)]; exact ss _ _ hb, by rw [upd_same, List.map_append]; rfl, ?_⟩
  rw [take_more hp, List.filter_append, List.filter_cons_of_pos c]
  refine Pd.app (Pd.kp (Kp.at_ (p := D)) (fun xs z => by rw [hD] at z; cases z) pu) ⟨?_, trivial⟩
  rw [upd_ne (Ne.symm nDt)]
  exact et
theorem keep_less {H4 : Hp} {us : List Addr} {f : Pr → Bool} {p : Pr} {i : Nat} {ps : List Pr} (pu : Pd H4 us ((ps.take i).filter f)) (hp : ps[i]? = some p) (c : f p = false) : Pd H4 us ((ps.take (i + 1)).filter f) := by
  rw [take_more hp, List.filter_append, List.filter_cons_of_neg (by rw [c]; decide), List.filter_nil, List.append_nil]
  exact pu
theorem filt_len {f : Pr → Bool} {ps : List Pr} {i : Nat} : ((ps.take i).filter f).length ≤ ps.length := Nat.le_trans (List.length_filter_le ..) (List.length_take_le' ..)
end Spk
namespace Spk
open PySem PySem.Spec PyProof.Rows L2
theorem iteTe {c : Bool} {A B : Prop} (h : c = true) (a : A) : if c = true then A else B := by
  rw [h, if_pos rfl]; exact a
theorem cut_last (xs : List V) (x : V) : cutV (xs ++ [x]) none (some (-1)) = xs := by
  unfold cutV HT.sIx
  simp
  rw [show (-1 + ((xs.length : Int) + 1)).toNat = xs.length from by omega, List.take_left]
theorem eqv_eq {l k : List Pr} (e : l = k) : PyData.eqv (.list (l.map prD)) (.list (k.map prD)) = true := by rw [eqvPs, decide_eq_true e]
theorem eqv_neq {l k : List Pr} (e : l = k) : (!PyData.eqv (.list (l.map prD)) (.list (k.map prD))) = false := by rw [eqv_eq e]; rfl
end Spk

namespace Spk
open PySem PySem.Spec PyProof.Rows L2
section
variable {K : PySem.W.Frag}
theorem kit_mk {t : Value} {C : Addr} {b : Bool} (h2 : PySem.W.isClsIn K C = true) (h3 : PySem.W.typeIn K (.ref C) = some (.type "type")) (h4 : PySem.W.subIn K t (.ref C) = some b) : PySem.W.kitCls K t (.ref C) = some b := by
  have e2 : ((PySem.W.clsIn K C).isSome && PySem.W.typeIn K (.ref C) == some (.type "type")) = true := by
    have h2' : (PySem.W.clsIn K C).isSome = true := h2
    rw [h2', h3] <;> rfl
  show (if ((PySem.W.clsIn K C).isSome && PySem.W.typeIn K (.ref C) == some (.type "type")) = true then PySem.W.subIn K t (.ref C) else none) = some b
  rw [if_pos e2]
  exact h4
/-- does an error of the class t meet the clause of the class C -/
theorem exm_mk {t : Value} {C : Addr} {b : Bool} (h1 : PySem.W.subIn K (.ref C) (.type "BaseException") = some true) (h2 : PySem.W.isClsIn K C = true) (h3 : PySem.W.typeIn K (.ref C) = some (.type "type")) (h4 : PySem.W.subIn K t (.ref C) = some b) :
    PySem.W.exmOne K t (.ref C) = some b := by
  have e1 : (PySem.W.subIn K (.ref C) (.type "BaseException") == some true) = true := by rw [h1] <;> rfl
  show (if (PySem.W.subIn K (.ref C) (.type "BaseException") == some true) = true then PySem.W.kitCls K t (.ref C) else none) = some b
  rw [if_pos e1]
  exact kit_mk h2 h3 h4
/-- isinstance by a built-in class -/
theorem kit_bin {C : Addr} {T : String} {b : Bool} (hm : PySem.W.kitMeta T = true) (h : PySem.W.subIn K (.ref C) (.type T) = some b) : PySem.W.kitOne K (.ref C) (.type T) = some b := by
  have e : (Value.ref C == Value.type T) = false := rfl
  show (if (Value.ref C == Value.type T) = true then some true else (if PySem.W.kitMeta T = true then PySem.W.subIn K (.ref C) (.type T) else none)) = some b
  rw [e, if_neg Bool.false_ne_true, if_pos hm]
  exact h
/-- isinstance by another own class: no -/
theorem kit_not {C D : Addr} (h2 : PySem.W.isClsIn K D = true) (h3 : PySem.W.typeIn K (.ref D) = some (.type "type")) (hs : PySem.W.subIn K (.ref D) (.ref D) = some true) (h4 : PySem.W.subIn K (.ref C) (.ref D) = some false) : PySem.W.kitOne K (.ref C) (.ref D) = some false := by
  have ne : C ≠ D := fun z => by rw [z, hs] at h4; cases h4
  have e : (Value.ref C == Value.ref D) = false := by
    cases q : (Value.ref C == Value.ref D) with
    | false => rfl
    | true => exact absurd (by have := beq_iff_eq.mp q; injection this) ne
  show (if (Value.ref C == Value.ref D) = true then some true else PySem.W.kitCls K (.ref C) (.ref D)) = some false
  rw [e, if_neg Bool.false_ne_true]
  exact kit_mk h2 h3 h4
/-- what the top must have left of an own error class over ValueError -/
structure ErrF (K : PySem.W.Frag) (C : Addr) (f : Str) : Prop where
  cls : ∃ nm q N bs bm sn sub ab col dd k0 k1 k2 k3 k5, K.lookup C = some (excClassObj nm q C N bs bm true sn sub ab col dd k0 k1 k2 k3 k5 "ValueError.__new__") ∧ PySem.HandSPX.refsVE bm = true
  sa : PySem.W.findIn K (.ref C) "__setattr__" = some (some (.builtin "object.__setattr__"))
  ga : PySem.W.findIn K (.ref C) "__getattribute__" = some (some (.builtin "BaseException.__getattribute__"))
  gg : PySem.W.findIn K (.ref C) "__getattr__" = some none
  nf : PySem.W.findIn K (.ref C) f = some none
  kC : PySem.W.keepIn K (.ref C) = true
  eC : PySem.W.subIn K (.ref C) (.type "BaseException") = some true
  tC : PySem.W.typeIn K (.ref C) = some (.type "type")
  hC : PySem.W.hasDictIn K C = true
  iC : PySem.W.isClsIn K C = true
  sC : PySem.W.subIn K (.ref C) (.ref C) = some true
theorem ErrF.xf {C : Addr} {f : Str} (h : ErrF K C f) : XfC K C := ⟨h.ga, h.gg, h.eC, h.hC⟩
theorem ErrF.oex {C : Addr} {f : Str} (h : ErrF K C f) : OexC K C := ⟨h.cls, h.sa, h.eC, h.tC, h.kC⟩
theorem ErrF.exm {C : Addr} {f : Str} {t : Value} {b : Bool} (h : ErrF K C f) (s : PySem.W.subIn K t (.ref C) = some b) : PySem.W.exmOne K t (.ref C) = some b := exm_mk h.eC h.iC h.tC s
theorem ErrF.not {C D : Addr} {f : Str} (h : ErrF K D f) (s : PySem.W.subIn K (.ref C) (.ref D) = some false) : PySem.W.kitOne K (.ref C) (.ref D) = some false := kit_not h.iC h.tC h.sC s
theorem ErrF.excC {C : Addr} {f : Str} (h : ErrF K C f) (ha : PySem.W.findIn K (.ref C) "__class__" = some (some (.builtin "object.__class__"))) (hn : PySem.W.specialIn K (.builtin "object.__class__") "__get__" = some (some (.builtin "getset_descriptor.__get__")))
    (ht : PySem.W.takesIn K (.builtin "object.__class__") = some true) (hm : PySem.W.mroIn K C (.type "object") = some true) : ExcC K C := ⟨h.ga, h.gg, h.eC, h.hC, ha, hn, ht, hm⟩
theorem ErrF.errT {P : Program} {w : World} {mg : Str → Option Value} {bh : Heap} {x f qu : Str} {C fI : Addr} {fd : FuncData} {st : Stmt} {q1 q2 q3 q4 : Pos} (h : ErrF K C f) (gC : mg x = some (.ref C))
    (iC : PySem.W.findIn K (.ref C) "__init__" = some (some (.ref fI))) (tI : PySem.W.typeIn K (.ref fI) = some (.type "function")) (F : Fun K "__init__" qu st fI fd) (bd : Binds K fd ["self", f] [])
    (S : FnScope ["self", f] ["self", f] (defScope st)) (hb : defBody st = [.Assign [.Attribute (.Name "self" q1) f q2] (.Name f q3) q4]) (hf1 : (f == ("__debug__" : Str)) = false) (hf2 : (f == ("__classdict__" : Str)) = false)
    (v0 : (defScope st).names.lookup ("self" : Str) = some .local) (v1 : (defScope st).names.lookup f = some .local) : ErrT P w K mg bh x f C fI fd :=
  ⟨h.oex, h.xf, h.nf, iC, tI, gC, ok_init F S h.oex h.nf hb hf1 hf2 v0 v1, bd, h.exm h.sC⟩
end
end Spk

namespace Spk
open PySem PySem.Spec PyProof.Rows L2
/-! ### the least moments of a spread -/
def nextIn (us : List Pr) (m : Int) : Option Int := (us.find? fun p => decide (m < p.2)).map fun p => mx p.1 m
def nextOut (us : List Pr) (m : Int) : Option Int := match us.find? fun p => decide (p.1 ≤ m) && decide (m < p.2) with
  | none => some m
  | some p => if p.2 = 10000000000000000000000000000000 then none else some p.2
def hasB (ps : List Pr) (m : Int) : Bool := ps.any fun p => decide (p.1 ≤ m) && decide (m < p.2)
def dueF (ps : List Pr) (ms : List Int) (m : Int) (b : Bool) : Option Int := ms.find? fun n => decide (m ≤ n) && (hasB ps n == b)
def optV : Option Int → V
  | none => .non
  | some i => .int i
theorem hasB_iff {ps : List Pr} {m : Int} : hasB ps m = true ↔ ∃ p ∈ ps, p.1 ≤ m ∧ m < p.2 := by
  unfold hasB
  rw [List.any_eq_true]
  constructor
  · rintro ⟨p, hp, h⟩
    simp only [Bool.and_eq_true, decide_eq_true_eq] at h
    exact ⟨p, hp, h⟩
  · rintro ⟨p, hp, h⟩
    exact ⟨p, hp, by simp only [Bool.and_eq_true, decide_eq_true_eq]; exact h⟩
theorem hasB_cov {ps : List Pr} {m : Int} : hasB ps m = true ↔ cov false ps (2 * m) := by
  rw [hasB_iff]
  constructor
  · rintro ⟨p, hp, h1, h2⟩
    exact ⟨p, hp, by unfold covP; simp only [Bool.false_eq_true, if_false]; omega⟩
  · rintro ⟨p, hp, h⟩
    unfold covP at h
    simp only [Bool.false_eq_true, if_false] at h
    exact ⟨p, hp, by omega⟩
theorem hasB_union (ps : List Pr) (m : Int) : hasB (unionM false ps) m = hasB ps m := by
  rw [Bool.eq_iff_iff, hasB_cov, hasB_cov]
  exact cov_union false ps (2 * m)
theorem find_least {P : Int → Bool} : ∀ {ms : List Int} {n : Int}, ms.Pairwise (· ≤ ·) → n ∈ ms → P n = true → (∀ k ∈ ms, P k = true → n ≤ k) → ms.find? P = some n
  | [], _, _, h, _, _ => absurd h List.not_mem_nil
  | a :: ms, n, s, h, hp, hl => by
    obtain ⟨s1, s2⟩ := List.pairwise_cons.mp s
    rw [List.find?_cons]
    cases e : P a with
    | true =>
      have h1 := hl a List.mem_cons_self e
      rcases List.mem_cons.mp h with rfl | h
      · rfl
      · have := s1 n h
        show some a = some n
        rw [show a = n by omega]
    | false =>
      rcases List.mem_cons.mp h with rfl | h
      · rw [hp] at e; cases e
      · exact find_least s2 h hp fun k hk => hl k (List.mem_cons_of_mem _ hk)
theorem find_first {P : Pr → Bool} : ∀ {us : List Pr} {p : Pr}, (us.Pairwise fun a b => a.2 < b.1) → us.find? P = some p → ∀ u ∈ us, P u = true → u = p ∨ p.2 < u.1
  | [], _, _, e, _, _, _ => nomatch e
  | a :: us, p, s, e, u, hu, h => by
    obtain ⟨s1, s2⟩ := List.pairwise_cons.mp s
    rw [List.find?_cons] at e
    cases c : P a with
    | true =>
      rw [c] at e
      obtain rfl := Option.some.inj e
      rcases List.mem_cons.mp hu with rfl | hu
      · exact .inl rfl
      · exact .inr (s1 u hu)
    | false =>
      rw [c] at e
      rcases List.mem_cons.mp hu with rfl | hu
      · rw [h] at c; cases c
      · exact find_first s2 e u hu h
theorem strP_bds {p : Pr} (h : strP p = true) : p.1 ≤ p.2 ∧ p.1 < 10000000000000000000000000000000 ∧ -10000000000000000000000000000000 < p.2 ∧ p.2 ≤ 10000000000000000000000000000000 ∧ -10000000000000000000000000000000 ≤ p.1 := by
  unfold strP edgeI at h
  simp only [Bool.and_eq_true, Bool.or_eq_true, decide_eq_true_eq] at h
  omega
theorem union_edges {ps : List Pr} (h : ∀ p ∈ ps, strP p = true) : ∀ u ∈ unionM false ps, strP u = true ∧ (∃ p ∈ ps, p.1 = u.1) ∧ ∃ p ∈ ps, p.2 = u.2 :=
  union_keeps (G := fun u => strP u = true ∧ (∃ p ∈ ps, p.1 = u.1) ∧ ∃ p ∈ ps, p.2 = u.2) (fun c p hc hp hl => ⟨strP_ext hc.1 hp.1 hl, hc.2.1, hp.2.2⟩) fun p hp => ⟨h p hp, ⟨p, hp, rfl⟩, ⟨p, hp, rfl⟩⟩
/-- the moments among which an answer is sought: ascending, and the edges are among them -/
structure Whens (ps : List Pr) (ms : List Int) : Prop where
  up : ms.Pairwise (· ≤ ·)
  bd : ∀ n ∈ ms, -10000000000000000000000000000000 < n ∧ n < 10000000000000000000000000000000
  b1 : ∀ p ∈ ps, -10000000000000000000000000000000 < p.1 → p.1 ∈ ms
  b2 : ∀ p ∈ ps, p.2 < 10000000000000000000000000000000 → p.2 ∈ ms
theorem due_in {ps : List Pr} {ms : List Int} {m : Int} (hs : ∀ p ∈ ps, strP p = true) (w : Whens ps ms) (hm : m ∈ ms) : dueF ps ms m true = nextIn (unionM false ps) m := by
  have pw := oneF_pw (union_one false ps)
  have ue := union_edges hs
  have bm := w.bd m hm
  unfold nextIn dueF
  cases e : (unionM false ps).find? (fun p => decide (m < p.2)) with
  | none =>
    show _ = none
    refine List.find?_eq_none.mpr fun k hk c => ?_
    rw [Bool.and_eq_true, decide_eq_true_eq, beq_iff_eq, ← hasB_union, hasB_iff] at c
    obtain ⟨mk, u, hu, h1, h2⟩ := c
    exact List.find?_eq_none.mp e u hu (decide_eq_true (by omega))
  | some p =>
    have p2 : m < p.2 := by
      have := List.find?_some e
      exact of_decide_eq_true this
    have pin := List.mem_of_find?_eq_some e
    obtain ⟨sp, ⟨q, hq, e1⟩, _⟩ := ue p pin
    have sb := strP_bds sp
    show _ = some (mx p.1 m)
    have mxl : m ≤ mx p.1 m ∧ p.1 ≤ mx p.1 m ∧ (mx p.1 m = m ∨ (mx p.1 m = p.1 ∧ m < p.1)) := by unfold mx; split <;> omega
    refine find_least w.up ?_ ?_ ?_
    · rcases mxl.2.2 with h | ⟨h, l⟩
      · rw [h]; exact hm
      · rw [h, ← e1]
        exact w.b1 q hq (by omega)
    · rw [Bool.and_eq_true, decide_eq_true_eq, beq_iff_eq, ← hasB_union, hasB_iff]
      have lt : p.1 < p.2 := by
        have := oneF_full (union_one false ps) p pin
        unfold emp at this
        simp only [Bool.false_eq_true, if_false, decide_eq_false_iff_not] at this
        omega
      refine ⟨mxl.1, p, pin, mxl.2.1, ?_⟩
      rcases mxl.2.2 with h | ⟨h, l⟩ <;> omega
    · intro k hk c
      rw [Bool.and_eq_true, decide_eq_true_eq, beq_iff_eq, ← hasB_union, hasB_iff] at c
      obtain ⟨mk, u, hu, h1, h2⟩ := c
      rcases find_first pw e u hu (decide_eq_true (by omega)) with rfl | h
      · rcases mxl.2.2 with h | ⟨h, l⟩ <;> omega
      · rcases mxl.2.2 with h | ⟨h, l⟩ <;> omega
theorem due_out {ps : List Pr} {ms : List Int} {m : Int} (hs : ∀ p ∈ ps, strP p = true) (w : Whens ps ms) (hm : m ∈ ms) : dueF ps ms m false = nextOut (unionM false ps) m := by
  have pw := oneF_pw (union_one false ps)
  have ue := union_edges hs
  have bm := w.bd m hm
  have no : ∀ k, hasB ps k = false ↔ ¬ ∃ p ∈ unionM false ps, p.1 ≤ k ∧ k < p.2 := fun k => by rw [Bool.eq_false_iff, Ne, ← hasB_union, hasB_iff]
  unfold nextOut dueF
  cases e : (unionM false ps).find? (fun p => decide (p.1 ≤ m) && decide (m < p.2)) with
  | none =>
    show _ = some m
    refine find_least w.up hm ?_ ?_
    · rw [Bool.and_eq_true, decide_eq_true_eq, beq_iff_eq, no]
      refine ⟨Int.le_refl _, ?_⟩
      rintro ⟨u, hu, h1, h2⟩
      exact List.find?_eq_none.mp e u hu (by rw [Bool.and_eq_true, decide_eq_true_eq, decide_eq_true_eq]; exact ⟨h1, h2⟩)
    · intro k _ c
      rw [Bool.and_eq_true, decide_eq_true_eq] at c
      exact c.1
  | some p =>
    have pp := List.find?_some e
    rw [Bool.and_eq_true, decide_eq_true_eq, decide_eq_true_eq] at pp
    have pin := List.mem_of_find?_eq_some e
    obtain ⟨sp, _, ⟨q, hq, e2⟩⟩ := ue p pin
    have sb := strP_bds sp
    show _ = if p.2 = 10000000000000000000000000000000 then none else some p.2
    split
    · rename_i h
      refine List.find?_eq_none.mpr fun k hk c => ?_
      rw [Bool.and_eq_true, decide_eq_true_eq, beq_iff_eq, no] at c
      have := w.bd k hk
      exact c.2 ⟨p, pin, by omega, by omega⟩
    · rename_i h
      refine find_least w.up (e2 ▸ w.b2 q hq (by omega)) ?_ ?_
      · rw [Bool.and_eq_true, decide_eq_true_eq, beq_iff_eq, no]
        refine ⟨by omega, ?_⟩
        rintro ⟨u, hu, h1, h2⟩
        rcases pw_two pw pin hu with rfl | h3 | h3 <;> omega
      · intro k _ c
        rw [Bool.and_eq_true, decide_eq_true_eq, beq_iff_eq, no] at c
        by_cases h4 : p.2 ≤ k
        · exact h4
        · exact absurd ⟨p, pin, by omega, by omega⟩ c.2
theorem due_next {ps : List Pr} {ms : List Int} {m : Int} (hs : ∀ p ∈ ps, strP p = true) (w : Whens ps ms) (hm : m ∈ ms) (b : Bool) : dueF ps ms m b = if b then nextIn (unionM false ps) m else nextOut (unionM false ps) m := by
  cases b
  · exact due_out hs w hm
  · exact due_in hs w hm
end Spk
namespace Spk
open PySem PySem.Spec PyProof.Rows L2
/-! ### spans and spreads as objects -/
theorem dp_pr {K : PySem.W.Frag} {H : Hp} {t : Addr} {p : Pr} (h : H t = some (.tup [.int p.1, .int p.2])) : Dp K H (.ref t) (prD p) := .tup (SqT.hp h) (.cons (.int _) (.cons (.int _) .nil))
theorem strP_isE {p : Pr} (h : strP p = true) : isEdge (.int p.1) = true ∧ isEdge (.int p.2) = true := by
  unfold strP at h
  simp only [Bool.and_eq_true] at h
  exact ⟨h.1.1, h.1.2⟩
theorem isStr_pr (p : Pr) : isStr (prD p) = strP p := rfl
def spnFs (p : Pr) : List (Str × V) := [(("begin" : Str), .int p.1), (("end" : Str), .int p.2)]
theorem spn_begin (p : Pr) : List.lookup ("begin" : Str) (spnFs p) = some (.int p.1) := by simp [spnFs, List.lookup]
theorem spn_end (p : Pr) : List.lookup ("end" : Str) (spnFs p) = some (.int p.2) := by
  have : (("end" : Str) == ("begin" : Str)) = false := by decide +kernel
  simp [spnFs, List.lookup, this]
theorem spn_put (p : Pr) : putF "end" (.int p.2) (putF "begin" (.int p.1) []) = spnFs p := by
  have : ¬ (("begin" : Str) = ("end" : Str)) := by decide +kernel
  simp [putF, spnFs, this]
structure SpnC (K : PySem.W.Frag) (C : Addr) : Prop where
  cl : Cls K C
  nB : NoAttr K C "begin"
  nE : NoAttr K C "end"
  self : PySem.W.kitOne K (.ref C) (.ref C) = some true
  ha : PySem.W.findIn K (.ref C) "__class__" = some (some (.builtin "object.__class__"))
  hn : PySem.W.specialIn K (.builtin "object.__class__") "__get__" = some (some (.builtin "getset_descriptor.__get__"))
  ht : PySem.W.takesIn K (.builtin "object.__class__") = some true
  hm : PySem.W.mroIn K C (.type "object") = some true
theorem SpnC.ty {K : PySem.W.Frag} {C a dx : Addr} {fs : List (Str × V)} {H : Hp} (c : SpnC K C) (e : H a = some (.ins C dx fs)) : TyX K H (.ref a) (.ref C) := .base (.ins e c.cl c.ha c.hn c.ht c.hm)
structure SprC (K : PySem.W.Frag) (C : Addr) : Prop where
  cl : Cls K C
  nP : NoAttr K C "pairs"
def IsSpn (H : Hp) (C a : Addr) (p : Pr) : Prop := ∃ dx : Addr, H a = some (.ins C dx (spnFs p))
theorem IsSpn.same {H H' : Hp} {C a : Addr} {p : Pr} (h : IsSpn H C a p) (s : Same H H') : IsSpn H' C a p := by
  obtain ⟨dx, h1⟩ := h
  exact ⟨dx, s _ _ h1⟩
def Spn (H : Hp) (C : Addr) : List Addr → List Pr → Prop
  | [], [] => True
  | a :: as, p :: ps => IsSpn H C a p ∧ Spn H C as ps
  | _, _ => False
theorem Spn.len {H : Hp} {C : Addr} : ∀ {as : List Addr} {ps : List Pr}, Spn H C as ps → as.length = ps.length
  | [], [], _ => rfl
  | _ :: _, _ :: _, h => congrArg (· + 1) (Spn.len h.2)
  | [], _ :: _, h => h.elim
  | _ :: _, [], h => h.elim
theorem Spn.same {H H' : Hp} {C : Addr} (s : Same H H') : ∀ {as : List Addr} {ps : List Pr}, Spn H C as ps → Spn H' C as ps
  | [], [], _ => trivial
  | _ :: _, _ :: _, h => ⟨h.1.same s, Spn.same s h.2⟩
  | [], _ :: _, h => h.elim
  | _ :: _, [], h => h.elim
theorem Spn.get {H : Hp} {C : Addr} : ∀ {as : List Addr} {ps : List Pr}, Spn H C as ps → ∀ {i : Nat} {a : Addr}, as[i]? = some a → ∃ p, ps[i]? = some p ∧ IsSpn H C a p
  | [], [], _, _, _, e => by simp at e
  | a :: as, p :: ps, h, 0, x, e => by
    obtain rfl : a = x := by simpa using e
    exact ⟨p, rfl, h.1⟩
  | _ :: as, _ :: ps, h, i + 1, x, e => by
    obtain ⟨p, h1, h2⟩ := Spn.get h.2 (i := i) (a := x) (by simpa using e)
    exact ⟨p, by simpa using h1, h2⟩
  | [], _ :: _, h, _, _, _ => h.elim
  | _ :: _, [], h, _, _, _ => h.elim
theorem Spn.app {H : Hp} {C : Addr} : ∀ {as : List Addr} {ps : List Pr} {bs : List Addr} {qs : List Pr}, Spn H C as ps → Spn H C bs qs → Spn H C (as ++ bs) (ps ++ qs)
  | [], [], _, _, _, h => h
  | _ :: _, _ :: _, _, _, h, k => ⟨h.1, Spn.app h.2 k⟩
  | [], _ :: _, _, _, h, _ => h.elim
  | _ :: _, [], _, _, h, _ => h.elim
theorem Spn.kp {q : Addr} {H H' : Hp} {C : Addr} (e : Kp q H H') (hq : ∀ D dx fs, H q ≠ some (.ins D dx fs)) : ∀ {as : List Addr} {ps : List Pr}, Spn H C as ps → Spn H' C as ps
  | [], [], _ => trivial
  | a :: _, _ :: _, h => by
    obtain ⟨⟨dx, h1⟩, h2⟩ := h
    exact ⟨⟨dx, e _ _ (fun z => hq _ _ _ (z ▸ h1)) h1⟩, Spn.kp e hq h2⟩
  | [], _ :: _, h => h.elim
  | _ :: _, [], h => h.elim
def sprFs (t : Addr) : List (Str × V) := [(("pairs" : Str), .ref t)]
theorem spr_pairs (t : Addr) : List.lookup ("pairs" : Str) (sprFs t) = some (.ref t) := by simp [sprFs, List.lookup]
theorem spr_put (t : Addr) : putF "pairs" (.ref t) [] = sprFs t := rfl
def IsSpr (H : Hp) (C o : Addr) (us : List Pr) : Prop := ∃ (dx t : Addr) (ts : List Addr), H o = some (.ins C dx (sprFs t)) ∧ H t = some (.tup (ts.map V.ref)) ∧ Pd H ts us
theorem IsSpr.same {H H' : Hp} {C o : Addr} {us : List Pr} (h : IsSpr H C o us) (s : Same H H') : IsSpr H' C o us := by
  obtain ⟨dx, t, ts, h1, h2, h3⟩ := h
  exact ⟨dx, t, ts, s _ _ h1, s _ _ h2, h3.same s⟩
theorem find_at {α : Type} {P : α → Bool} : ∀ {l : List α} {i : Nat} {p : α}, l[i]? = some p → P p = true → (∀ q ∈ l.take i, P q = false) → l.find? P = some p
  | [], _, _, h, _, _ => by simp at h
  | a :: l, 0, p, h, hp, _ => by
    obtain rfl : a = p := by simpa using h
    rw [List.find?_cons, hp]
  | a :: l, i + 1, p, h, hp, hn => by
    rw [List.find?_cons, hn a (by simp)]
    exact find_at (i := i) (by simpa using h) hp fun q hq => hn q (by simp [hq])
theorem find_no {α : Type} {P : α → Bool} {l : List α} (h : ∀ q ∈ l, P q = false) : l.find? P = none := List.find?_eq_none.mpr fun q hq c => by rw [h q hq] at c; cases c
theorem take_step {α : Type} {R : α → Prop} {l : List α} {i : Nat} {p : α} (h : l[i]? = some p) (no : ∀ q ∈ l.take i, R q) (hp : R p) : ∀ q ∈ l.take (i + 1), R q := fun q hq => by
  rw [take_more h] at hq
  rcases List.mem_append.mp hq with hq | hq
  · exact no q hq
  · rw [List.mem_singleton.mp hq]; exact hp
theorem mom_of {K : PySem.W.Frag} {H : Hp} {v : V} {d : PyData} (dv : Dp K H v d) (h : isMom d = true) : ∃ m, d = .int m ∧ v = .int m := by
  cases dv with
  | int m => exact ⟨m, rfl, rfl⟩
  | _ => cases h
/-! ### a def with a star parameter -/
def spStar (n : Nat) (sp : Sp) : Sp := fun vs H Q E => ∃ ws rest, vs = ws ++ rest ∧ ws.length = n ∧ rest.length ≤ sizeLine ∧ ∀ p, H p = Option.none → sp (ws ++ [V.ref p]) (upd H p (.tup rest)) Q E
section
variable {P : Program} {w : World} {K : PySem.W.Frag} {mg : Str → Option Value} {bh : Heap}
theorem okStar {x qu pv : Str} {st : Stmt} {f : Addr} {fd : FuncData} {N ps : List Str} {k : Nat} {sp : Sp} (F : Fun K x qu st f fd) (S : FnScope N (ps ++ [pv]) (defScope st))
    (hb : ∀ (kV doc pm : Value) (an : Option Addr) (cdv ct : Value) (us rest : List Value), us.length = ps.length → bindArgs (PySem.W.fnOf x qu (defArgs st) (defBody st) (defScope st) .none kV doc pm an cdv ct) ⟨us ++ rest, []⟩ = (newTuple rest >>= fun t => pure (ps.zip us ++ [(pv, t)])))
    (hbody : ∀ (cdv : Value) (A : Around) (outer : List Env) (s : Shared) (H : Hp) (vs : List V) (Q : VK) (E : XK), Room k (A.deeper (envOfC qu (defScope st) s.heap.objs.size f cdv)) → sp vs H Q E →
      ∃ t, PSs (cxOf CX0 P w K mg bh N qu (defScope st) f cdv A outer s H E).nox (defBody st) t ∧ t { nx := fun _ H' => Q .non H', rt := Q } (L2.start N vs) H) : FnR P w K mg bh CX0 (k + 1) f (spStar ps.length sp) := by
  obtain ⟨oc, od, kV, doc, pm, an, cdv, ct, osl, rfl, lk, hcd⟩ := F.ex
  refine StX.fn_star lk hcd S StX.cxUp_none (hb kV doc pm an cdv ct) fun A outer s H vs Q E hr hsp => ?_
  obtain ⟨t, h, q⟩ := hbody cdv A outer s H vs Q E hr hsp
  exact ⟨t, h.nox, q⟩
end
/-! ### o.m(e, ..) where what is raised is wished for at the caller's slots -/
def tMethE (C : Addr) (m : Str) (sp : Sp) (E : L2.St → XK) (ta : TE) (t : TA) : TE := fun σ H Q => ta σ H fun x H1 => ∃ a dx fs, x = .ref a ∧ H1 a = some (.ins C dx fs) ∧ fs.lookup m = none ∧ t σ H1 fun vs H2 => sp (x :: vs) H2 Q (E σ)
section
variable {X : Cx} {k j : Nat} {C f : Addr} {fd : FuncData} {ps : List Str} {sp : Sp} {m : Str} {E : L2.St → XK} {o e : Expr} {es : List Expr} {ta : TE} {t : TA} {apos pos : Pos}
theorem pe_methE {pl : Sem Bool} (R : RdyMx X.prog X.w X.K X.mg X.base C m k ps sp f fd) (c : Cls X.K C) (rm : Room j X.A) (hj : k ≤ j) (he : PE X o ta) (hx : ∀ σ, PassesAt (L2.CX X.prog X.w) X σ (E σ)) (ha : PA X (e :: es) t)
    (hst : starEach (e :: es) X.env = (false, eval e X.env) :: starEach es X.env := by rfl) (hpl : (backTo pos (starEach es X.env)).any (·.1) = false := by rfl)
    (ht : eval (.Call (.Attribute o m apos) (e :: es) [] pos) X.env = (do
      let ov ← eval o X.env
      standAt apos.atName
      let (f, first) ← holding [ov] (getMethod ov m pl)
      callWith pos f first (backTo pos (starEach (e :: es) X.env)) (backToKw pos (keywordEach [] X.env))) := by rfl) :
    PE X (.Call (.Attribute o m apos) (e :: es) [] pos) (tMethE C m sp E ta t) := by
  refine ⟨fun pins s σ H Q I h => ?_⟩
  refine PySem.W.methodCall_KW (pl := pl) (thn (he.run pins s σ H _ I h) fun u s1 ⟨x, H1, I1, rx, a, dx, fs, ex, ea, l, q⟩ => ?_) ht
  subst ex
  obtain rfl : u = Value.ref a := rx
  refine getmeth_ok I1 ea c R.mt l ?_
  refine PySem.W.callWith_K (first := [.ref a]) (h₀ := X.base) I.ok.mod.kin R.mt.kp (thn (ha.run pos pins s1 σ H1 _ I1 q) fun us s2 ⟨vs, H2, I2, r, q2⟩ => ⟨I2.kIn, ?_⟩) hst hpl
  exact run_fnSD (us := .ref a :: us) (vs := .ref a :: vs) R.ok (rm.mono hj) R.bd .nil (hx σ) I2 (.cons rfl r) (by rw [List.append_nil]; exact q2)
end
end Spk
namespace Spk
open PySem PySem.Spec PyProof.Rows L2
/-! ### what is told of an answer -/
def optD : Option Int → PyData
  | none => .none
  | some i => .int i
theorem dp_opt {K : PySem.W.Frag} {H : Hp} (x : Option Int) : Dp K H (optV x) (optD x) := by
  cases x with
  | none => exact .non
  | some i => exact .int i
def nextB (b : Bool) (us : List Pr) (m : Int) : Option Int := if b then nextIn us m else nextOut us m
theorem isMom_iff {m : Int} : isMom (.int m) = true ↔ -10000000000000000000000000000000 < m ∧ m < 10000000000000000000000000000000 := by
  show (decide (-10000000000000000000000000000000 < m) && decide (m < 10000000000000000000000000000000)) = true ↔ _
  rw [Bool.and_eq_true, decide_eq_true_eq, decide_eq_true_eq]
theorem okD_small {i : Int} (h1 : -10000000000000000000000000000000 ≤ i) (h2 : i ≤ 10000000000000000000000000000000) : OkD (.int i) := okD_int (log_of (by omega) (by omega))
theorem nextB_ok {b : Bool} {us : List Pr} {m : Int} (hu : ∀ u ∈ us, strP u = true) (hm : isMom (.int m) = true) : OkD (optD (nextB b us m)) := by
  have bm := isMom_iff.mp hm
  cases b with
  | true =>
    show OkD (optD (nextIn us m))
    unfold nextIn
    cases e : us.find? (fun p => decide (m < p.2)) with
    | none => exact okD_none
    | some p =>
      have sb := strP_bds (hu p (List.mem_of_find?_eq_some e))
      show OkD (.int (mx p.1 m))
      have : mx p.1 m = m ∨ mx p.1 m = p.1 := by unfold mx; split <;> simp
      rcases this with h | h <;> rw [h] <;> exact okD_small (by omega) (by omega)
  | false =>
    show OkD (optD (nextOut us m))
    unfold nextOut
    cases e : us.find? (fun p => decide (p.1 ≤ m) && decide (m < p.2)) with
    | none => exact okD_small (by omega) (by omega)
    | some p =>
      have sb := strP_bds (hu p (List.mem_of_find?_eq_some e))
      show OkD (optD (if p.2 = 10000000000000000000000000000000 then none else some p.2))
      split
      · exact okD_none
      · exact okD_small (by omega) (by omega)
theorem spr_in (t : Addr) : List.lookup ("next_in" : Str) (sprFs t) = none := by
  have : (("next_in" : Str) == ("pairs" : Str)) = false := by decide +kernel
  simp [sprFs, List.lookup, this]
theorem spr_out (t : Addr) : List.lookup ("next_out" : Str) (sprFs t) = none := by
  have : (("next_out" : Str) == ("pairs" : Str)) = false := by decide +kernel
  simp [sprFs, List.lookup, this]
/-- an own error over ValueError, as a suite's isinstance asks of it -/
structure ErrV (K : PySem.W.Frag) (C : Addr) : Prop where
  xc : ExcC K C
  isV : PySem.W.kitOne K (.ref C) (.type "ValueError") = some true
end Spk

namespace Spk
open PySem PySem.Spec PyProof.Rows L2
theorem kit_self {K : PySem.W.Frag} (C : Addr) : PySem.W.kitOne K (.ref C) (.ref C) = some true := by
  have e : (Value.ref C == Value.ref C) = true := beq_iff_eq.mpr rfl
  show (if (Value.ref C == Value.ref C) = true then some true else PySem.W.kitCls K (.ref C) (.ref C)) = some true
  rw [e] <;> rfl
theorem len_sub : ∀ {l m : List Int}, l.Pairwise (· < ·) → (∀ k ∈ l, k ∈ m) → l.length ≤ m.length
  | [], _, _, _ => Nat.zero_le _
  | a :: l, m, s, h => by
    obtain ⟨s1, s2⟩ := List.pairwise_cons.mp s
    have ha := h a List.mem_cons_self
    have := len_sub (m := m.erase a) s2 fun k hk => (List.mem_erase_of_ne (by have := s1 k hk; omega)).mpr (h k (List.mem_cons_of_mem _ hk))
    rw [List.length_erase_of_mem ha] at this
    have hp : 0 < m.length := List.length_pos_of_mem ha
    rw [List.length_cons]; omega
theorem IsSpr.kp {H H' : Hp} {C o q : Addr} {us : List Pr} (h : IsSpr H C o us) (k : Kp q H H') (hq : ∃ xs, H q = some (.lst xs)) : IsSpr H' C o us := by
  obtain ⟨dx, t, ts, h1, h2, h3⟩ := h
  obtain ⟨xs, hq⟩ := hq
  refine ⟨dx, t, ts, k _ _ (fun z => ?_) h1, k _ _ (fun z => ?_) h2, h3.kp k fun ys z => by rw [hq] at z; cases z⟩
  · rw [z, hq] at h1; cases h1
  · rw [z, hq] at h2; cases h2
theorem st_app {a b : Str} (ha : PyData.canLay0 (.str a) = true) (hb : PyData.canLay0 (.str b) = true) : PyData.canLay0 (.str (a ++ b)) = true := by
  have ha : a.cps.all (· < 0x110000) = true := ha
  have hb : b.cps.all (· < 0x110000) = true := hb
  show (a ++ b).cps.all (· < 0x110000) = true
  rw [Str.cps_append, Array.all_append, ha, hb]; rfl
theorem join_one (x : Str) : Str.join ", " [x] = x := rfl
theorem okD_lst1 {e : Int} (h1 : -10000000000000000000000000000000 ≤ e) (h2 : e ≤ 10000000000000000000000000000000) : OkD (.list [.int e]) :=
  (sm_lst (smA_cons (sm_int (i := e) (by omega) (by omega)) (Nat.le_refl 0) (Nat.le_refl 0) (smA_nil (n := 0))) (by decide) (by decide)).okD (by
    rw [PyData.shown_list, PyData.shownAll_cons, PyData.shownAll_nil, join_one]
    exact st_app (st_app (by decide +kernel) (okD_small h1 h2).st) (by decide +kernel))
theorem okD_tup1 {e : Int} (h1 : -10000000000000000000000000000000 ≤ e) (h2 : e ≤ 10000000000000000000000000000000) : OkD (.tuple [.int e]) :=
  (sm_tup (smA_cons (sm_int (i := e) (by omega) (by omega)) (Nat.le_refl 0) (Nat.le_refl 0) (smA_nil (n := 0))) (by decide) (by decide)).okD (by
    rw [PyData.shown_tuple, PyData.shownAll_cons, PyData.shownAll_nil, join_one]
    exact st_app (st_app (by decide +kernel) (okD_small h1 h2).st) (by show PyData.canLay0 (.str ",)") = true; decide +kernel))
theorem okD_zero : OkD (.str "0") := ⟨by decide +kernel, by decide +kernel, by decide +kernel, by decide +kernel, by decide +kernel, by decide +kernel⟩
theorem shpP {x y : Str} (hx : PyData.canLay0 (.str x) = true) (hy : PyData.canLay0 (.str y) = true) : SeqAt.shaped (.tuple [.str x, .str y]) = true := by
  have : PyData.canLay0 (.tuple [.str x, .str y]) = true := by
    show (PyData.canLay0 (.str x) && (PyData.canLay0 (.str y) && true)) = true
    rw [hx, hy]; rfl
  unfold SeqAt.shaped
  rw [this, decide_eq_true (by simp [PyData.depth, PyData.depthAll])]
  rfl
theorem eqv_strs (x y : Str) : (!PyData.eqv (.tuple [.str x, .str y]) (.tuple [.str x, .str y])) = false := by
  have : PyData.eqv (.tuple [.str x, .str y]) (.tuple [.str x, .str y]) = true := by
    show ((x == x) && ((y == y) && true)) = true
    simp
  rw [this]; rfl
theorem dp_strs {K : PySem.W.Frag} {H : Hp} {t : Addr} {x y : Str} (h : SqT K H t [.str x, .str y]) : Dp K H (.ref t) (.tuple [.str x, .str y]) := .tup h (.cons (.str _) (.cons (.str _) .nil))
/-- an object that is no moment and may be shown -/
def Odd (K : PySem.W.Frag) (H : Hp) (x : V) : Prop := ∃ d, Dp K H x d ∧ OkD d ∧ isMom d = false
theorem Odd.same {K : PySem.W.Frag} {H H' : Hp} {x : V} (h : Odd K H x) (s : Same H H') : Odd K H' x := by
  obtain ⟨d, h1, h2, h3⟩ := h
  exact ⟨d, sameD s _ h1, h2, h3⟩
theorem odd_int {K : PySem.W.Frag} {H : Hp} {i : Int} (h : ¬ (-10000000000000000000000000000000 < i ∧ i < 10000000000000000000000000000000)) (h1 : -1000000000000000000000000000000000000000000000 ≤ i) (h2 : i ≤ 1000000000000000000000000000000000000000000000) : Odd K H (.int i) :=
  ⟨.int i, .int i, okD_int (log_of h1 h2), Bool.eq_false_iff.mpr fun z => h (isMom_iff.mp z)⟩
end Spk

namespace SpkX
open PySem PySem.W PySem.Calls PyProof.Rows PySem.HandSPX
open Builtin Builtin.ObjectAttr
/-! ### own errors over any of the built-in ones -/
/-- the first field of an error that is being made -/
theorem put_first {prog : Program} {w : World} {A : Around} {R : Result → Shared → Prop} {H0 : Heap} {ge : Array GenState} {dr : Drawn} {t0 : Nat} {os : OsState} {K : W.Frag} {fn : Str} {tk : Tok} {u : Value} {ea Ca : Addr} {fv : Array Value} {cd : ClassData}
    (KI : K.In H0) (hE : H0.get? ea = some { cls := .ref Ca, data := .fields fv }) (hC : W.clsIn K Ca = some cd) (ne : cd.mro.isEmpty = false) (ob : cd.mro.contains (.type "object") = true) (ps : ∀ z, refuseLoop z "__setattr__" cd.mro = pure ()) (hh : cd.hasDict = true) (hno : W.findIn K (.ref Ca) fn = some none)
    (go : ∀ H1 tk1 dx, (∀ b o, b ≠ ea → H0.get? b = some o → H1.get? b = some o) → H0.objs.size ≤ dx → dx ≠ ea → H1.get? ea = some { cls := .ref Ca, dict := some dx, data := .fields fv } →
      H1.Ns1 dx (fun y => if y = fn then some u else none) → R (.ok (.ret .none)) ⟨H1, ge, dr, tk1, os⟩) :
    codeAny (model prog w) A (.call (.builtin "object.__setattr__") ⟨[.ref ea, .str fn tk, u], []⟩) R ⟨H0, ge, dr, t0, os⟩ := by
  have IN : W.InstAt H0 ea { cls := .ref Ca, data := .fields fv } Ca none := ⟨hE, rfl, rfl, trivial⟩
  have lt : ea ≠ H0.objs.size := Nat.ne_of_lt (Heap.lt_size hE)
  have sb : W.Looks (model prog w) H0 (isInstance (.ref ea) (.type "object")) true := by
    refine IN.type.andThen (W.looks_mroIn KI ?_)
    unfold W.mroIn
    rw [hC, Option.bind_some, if_neg (by rw [ne]; decide), ob]
  refine codeAny_call_builtin F.store_object.slot.plain F.store_object.entry ?_
  refine @W.check_slot (model prog w) _ _ ⟨H0, ge, dr, t0, os⟩ "object.__setattr__" "object" "__setattr__" (.ref ea) [.str fn tk, u] [] _ F.store_object.kind F.store_object.split sb (F.store_object.args (.ref ea) (.str fn tk) u) ?_
  have l1 : W.Looks (model prog w) H0 (mroOf (.ref Ca)) cd.mro := (W.looks_clsIn KI hC).andThen .now
  have l2 : W.Looks (model prog w) H0 (storeTaker? none) none := .now
  have l3 : W.Looks (model prog w) H0 (classData Ca) cd := W.looks_clsIn KI hC
  rw [W.osa_eq, refuse_eq]
  refine wpAny_bind (wpAny_bind (IN.type.at (wpAny_bind (l1.at ?_))))
  rw [ps]
  refine wpAny_pure (wpAny_bind (IN.type.at (wpAny_bind ((W.looks_findIn KI hno).at (wpAny_bind (l2.at ?_))))))
  show wpAny _ _ (storeInOwnDict (.ref ea) (.ref Ca) (.str fn tk) fn u false) _ _ _
  obtain ⟨f1, f2, f3, f4, f5, hd, f6, f7, f8, f9, f10⟩ := cd
  dsimp only at hh
  subst hh
  unfold storeInOwnDict ownDictForStores
  repeat (first | with_reducible refine store_in_new ?_ ?_ | with_reducible refine l3.at ?_ | with_reducible refine wpAny_loadPart_at hE ?_ | wp_step)
  · refine ⟨_, #[], _, (Heap.get?_update_ne _ _ _ _ lt.symm).trans (Heap.get?_push_at rfl rfl), rfl, fun e he => ?_, fun _ => rfl⟩
    exact absurd he (by simp)
  · intro H1 tk1 hn hs
    have h1 : (H0.push { cls := .type "dict", data := .dict #[] }).get? ea = some { cls := .ref Ca, data := .fields fv } := Heap.get?_push_of_some _ hE
    refine go H1 tk1 H0.objs.size (fun b o hb ho => ?_) (Nat.le_refl _) lt.symm ((hs.2 ea lt).trans (Heap.get?_update_self _ h1 rfl)) hn
    exact (hs.2 b (Nat.ne_of_lt (Heap.lt_size ho))).trans ((Heap.get?_update_ne _ _ _ _ hb).trans (Heap.get?_push_of_some _ ho))
end SpkX
namespace Spk
open PySem PySem.Spec PyProof.Rows L2
/-- what the written part says of an own error class -/
structure OexB (K : PySem.W.Frag) (C : Addr) : Prop where
  cls : ∃ B ni ii bm, ExcBaseFacts B ni ii bm ∧ (∀ z, refuseLoop z "__setattr__" bm = pure ()) ∧ bm.contains (.type "object") = true ∧
    ∃ nm q N bs sn sub ab col dd k0 k1 k2 k3 k5, K.lookup C = some (excClassObj nm q C N bs bm true sn sub ab col dd k0 k1 k2 k3 k5 ni)
  sa : PySem.W.findIn K (.ref C) "__setattr__" = some (some (.builtin "object.__setattr__"))
  exC : PySem.W.subIn K (.ref C) (.type "BaseException") = some true
  tyC : PySem.W.typeIn K (.ref C) = some (.type "type")
  kC : PySem.W.keepIn K (.ref C) = true
section
variable {X : Cx} {pins : List (Addr × Obj)} {σ : L2.St} {H : Hp} {s : Shared} {a C : Addr} {f : Str} {y : V} {u : Value} {Q : Unit → Shared → Prop} {E : Value → Shared → Prop} {A : Around}
theorem first_fld (T : OexB X.K C) (I : Inv X pins σ H s) (ea : H a = some (exo a C none)) (nf : PySem.W.findIn X.K (.ref C) f = some none) (ry : RelV y u)
    (go : ∀ dx s', H dx = none → dx ≠ a → Inv X pins σ (upd (upd H dx (exd dx [(f, y)])) a (exo a C (some dx))) s' → Q () s') : wpAny (model X.prog X.w) A (setAttr (.ref a) f u) Q E s := by
  obtain ⟨B, ni, ii, bm, FB, ps, ob, nm, q, N, bs, sn, sub, ab, col, dd, k0, k1, k2, k3, k5, hC⟩ := T.cls
  have cI : PySem.W.clsIn X.K C = some ⟨nm, bs, .ref C :: bm, N, q, true, sn, sub, ab, col, false⟩ := by unfold PySem.W.clsIn; rw [hC] <;> rfl
  obtain ⟨t1, oa⟩ := exo_at I.hok ea
  obtain ⟨H0, ge, dr, tk, os⟩ := s
  refine PySem.W.set_plain I.kIn (ox := { cls := .ref C, dict := none, data := .fields #[.ref t1, .none, .none, .none, .bool false, .none] }) (od := none) ⟨oa, rfl, rfl, trivial⟩ T.sa ?_
  refine SpkX.put_first I.kIn oa cI rfl (by rw [List.contains_cons, ob, Bool.or_true]) (fun z => by rw [refuseLoop_ref]; exact ps z) rfl nf (fun H1 tk1 dx kp dn dne hx hn => ?_)
  have nD : H dx = none := I.hok.fresh dn
  have oth : ∀ {b : Addr}, H b = none → b ≠ a := fun {b} n z => by rw [z, ea] at n; cases n
  have fre : ∀ {b : Addr} {o : Obj}, H0.get? b = some o → b ≠ dx := fun {b o} q => Nat.ne_of_lt (Nat.lt_of_lt_of_le (Heap.lt_size q) dn)
  let HN : Hp := upd (upd H dx (exd dx [(f, y)])) a (exo a C (some dx))
  have at_ : ∀ {b : Addr}, b ≠ a → b ≠ dx → HN b = H b := fun {b} h1 h2 => by show upd (upd H dx _) a _ b = _; rw [upd_ne h1, upd_ne h2]
  have HNo : ∀ {b : Addr} {o : HO}, H b = some o → b ≠ a → HN b = some o := fun {b o} h1 h2 => (at_ h2 (ne_of_none h1 nD)).trans h1
  have un : Un X.fs [] H HN H0 H1 :=
    { keep := fun b o q n _ _ => kp b o (oth n) q
      slot := fun b o q n _ _ => ⟨o.slots, kp b o (oth n) q⟩
      free := fun b o q n _ => (at_ (oth n) (fre q)).trans n
      there := fun b o q _ => (Decidable.em (b = a)).elim (fun hb => ⟨_, hb ▸ hx⟩) fun hb => ⟨o, kp b o hb q⟩
      tups := fun b xs q => HNo q (at_ne ea q exo_tup)
      frzs := fun b o v q => HNo q (at_ne ea q exo_frz)
      tbls := fun b ps q => ⟨#[], by rw [HNo q (at_ne ea q exo_tbl)]; simp⟩ }
  refine go dx _ nD dne (I.un (t' := tk1) un fun b o q => ?_)
  by_cases hb : b = a
  · subst hb
    change upd (upd H dx _) b _ b = some o at q
    rw [upd_same] at q
    cases q; exact exo_ok hx
  · by_cases hd : b = dx
    · subst hd
      change upd (upd H b _) a _ b = some o at q
      rw [upd_ne hb, upd_same] at q
      cases q; exact exd_ok hn (relO_put (fs := []) ry fun g => True.intro)
    · have q0 : H b = some o := (at_ hb hd).symm.trans q
      refine (I.hok b o q0).stay (fun c v hc z => kp c v ?_ z) (fun c hc => HNo hc (at_ne ea hc exo_own)) (fun c xs hc => HNo hc (at_ne ea hc exo_tup))
      rcases hc with rfl | hc
      · exact hb
      · exact at_ne ea hc exo_own
end
/-- self.f = e, in an error's own __init__ -/
def tOstB (K : PySem.W.Frag) (f : Str) (to te : TE) : TS := fun D σ H => te σ H fun y H1 => to σ H1 fun x H2 => ∃ a C : Addr, x = .ref a ∧ OexB K C ∧ PySem.W.findIn K (.ref C) f = some none ∧
  H2 a = some (exo a C none) ∧ ∀ dx, H2 dx = none → dx ≠ a → D.nx σ (upd (upd H2 dx (exd dx [(f, y)])) a (exo a C (some dx)))
theorem ps_ostB {X : Cx} {o e : Expr} {to te : TE} {f : Str} {p' pos : Pos} (ho : PE X o to) (he : PE X e te) (hs : swapsWith e (some (.Attribute o f p')) pos.line X.env = pure false := by rfl) : PS X (.Assign [.Attribute o f p'] e pos) (tOstB X.K f to te) := by
  refine ⟨fun pins s σ H D I h => ?_⟩
  refine plainObj_wpAny_Assign_Attribute (thn (he.run pins s σ H _ I h) fun v s1 z => ?_) hs
  obtain ⟨y, H1, I1, r1, q1⟩ := z
  refine thn (ho.run pins s1 σ H1 _ I1 q1) fun w s2 z => ?_
  obtain ⟨x, H2, I2, r2, a, C, ex, T, nf, ea, q⟩ := z
  subst ex
  obtain rfl : w = Value.ref a := r2
  exact first_fld T I2 ea nf r1 fun dx s' n ne J => ⟨σ, _, J, q dx n ne⟩
section
variable {X : Cx} {e : Expr} {es : List Expr} {ta : TA} {p pos : Pos}
theorem pmk_oexB {CX : CXT} {x : Str} {C fI : Addr} {k : Nat} {fd : FuncData} {ps : List Str} {sp : Sp} {ds : List Value} {dvs : List V} (T : OexB X.K C) (iC : PySem.W.findIn X.K (.ref C) "__init__" = some (some (.ref fI))) (tI : PySem.W.typeIn X.K (.ref fI) = some (.type "function"))
    (F1 : FnOk X.prog X.w X.K X.mg X.base CX k fI fd ps sp) (hr : Room (k + 1) X.A) (hb : Binds X.K fd ps ds) (hd : Vals dvs ds) (hx : Passes CX X (fun _ _ _ => False)) (hg : Gl X x) (hm : X.mg x = some (.ref C)) (ha : PA X (e :: es) ta)
    (hdb : (x == ("__debug__" : Str)) = false := by decide) (he : starEach (e :: es) X.env = (false, eval e X.env) :: starEach es X.env := by rfl) (hpl : (backTo pos (starEach es X.env)).any (·.1) = false := by rfl) : PMk X (.Call (.Name x p) (e :: es) [] pos) (tMkO C sp dvs ta) := by
  intro pins s σ H Q I h
  obtain ⟨B, ni, ii, bm, FB, _, ob, nm, q, N, bs, sn, sub, ab, col, dd, k0, k1, k2, k3, k5, hC⟩ := T.cls
  refine wpAny_Call_Name_kw (ld_glob I hg hm ?_ hdb)
  refine PySem.W.callWith_K (h₀ := X.base) I.ok.mod.kin T.kC (thn (ha.run pos pins s σ H _ I h) fun us s1 z => ?_) he hpl
  obtain ⟨vs, H1, I1, r1, hz, q1⟩ := z
  refine ⟨I1.kIn, ?_⟩
  show wpAny _ _ (call (.ref C) us) _ _ _
  obtain ⟨h0, ge, dr, tk, os⟩ := s1
  have ls : h0.objs.size ≤ h0.objs.size + 1 := Nat.le_succ _
  have nn : H1 (h0.objs.size + 1) = none := I1.hok.fresh ls
  have hq := q1 _ nn
  let h1 := (h0.push (PySem.W.kdv_tup us)).push (PySem.HandSPX.excO C h0.objs.size)
  have kk : ∀ b o, h0.get? b = some o → h1.get? b = some o := fun b o z => Heap.get?_push_of_some _ (Heap.get?_push_of_some _ z)
  have hget : h1.get? (h0.objs.size + 1) = some (PySem.HandSPX.excO C h0.objs.size) := by
    show ((h0.push (PySem.W.kdv_tup us)).push (PySem.HandSPX.excO C h0.objs.size)).get? _ = _
    heap_get
  have I2 : Inv X pins σ (upd H1 (h0.objs.size + 1) (exo (h0.objs.size + 1) C none)) ⟨h1, ge, dr, tk, os⟩ := I1.laid (t' := tk) (a := h0.objs.size + 1) (o := exo (h0.objs.size + 1) C none) (h' := h1) kk ls (exo_ok hget)
  have r2 : Vals (V.ref (h0.objs.size + 1) :: (vs ++ dvs)) (Value.ref (h0.objs.size + 1) :: (us ++ ds)) := .cons rfl (r1.append hd)
  have hl : (Value.ref (h0.objs.size + 1) :: us ++ ds).length = ps.length := (r2.length.symm.trans (F1.len _ _ _ _ hq))
  have hus : us.length ≤ sizeLine := by have := Paired.length r1; rw [sizeLine_eq]; omega
  refine wpAny_call (PySem.HandSPX.call_own FB (fun Y => rfl) (I1.kIn _ _ hC) (PySem.W.looks_findIn I1.kIn iC) (fun self => PySem.W.bind_fn I1.kIn self tI) hus (codeAny_mono (F1.run _ X.stack _ _ ⟨Value.ref (h0.objs.size + 1) :: us, []⟩ (Value.ref (h0.objs.size + 1) :: (us ++ ds)) _ _ (fun _ _ _ => False) (hr.make C us []) (I2.env0.make C us []) (hb _ (Value.ref (h0.objs.size + 1) :: us) I2.kIn hl) r2 hq) fun r s' z => ?_))
  match r, z with
  | .error er, z => exact hx pins σ _ _ er s' I2 z
  | .ok (.ret w), z =>
    obtain ⟨v, H2, o2, b2, un2, hok2, rv, ev, d, fs, fa, fd', fn, q2⟩ := z
    subst ev
    obtain ⟨h2, g2, d2, t2, os'⟩ := s'
    exact ⟨rv, mk_end (raises_own T.exC T.tyC) I1 ls kk un2 hok2 o2 b2 fa fd' fn q2⟩
  | .ok .next, z => exact z.elim
  | .ok .brk, z => exact z.elim
  | .ok .cont, z => exact z.elim
end
/-- what the top has left of such a class -/
structure ErrB (P : Program) (w : World) (K : PySem.W.Frag) (mg : Str → Option Value) (bh : Heap) (x f : Str) (C fI : Addr) (fd : FuncData) : Prop where
  oex : OexB K C
  xf : XfC K C
  noF : PySem.W.findIn K (.ref C) f = some none
  iC : PySem.W.findIn K (.ref C) "__init__" = some (some (.ref fI))
  tI : PySem.W.typeIn K (.ref fI) = some (.type "function")
  gC : mg x = some (.ref C)
  ini : FnOk P w K mg bh CX0 1 fI fd ["self", f] (sp_init C f)
  bd : Binds K fd ["self", f] []
section
variable {X : Cx} {x f : Str} {C fI : Addr} {fd : FuncData} {e : Expr} {te : TE} {W : WX} {p pos pos2 : Pos}
theorem ps_raiseB {k : Nat} (hc : X.calm = true) (T : ErrB X.prog X.w X.K X.mg X.base x f C fI fd) (rm : Room k X.A) (hk : 2 ≤ k) (tk : Takes X W) (hg : Gl X x) (he : PE X e te) (hdb : (x == ("__debug__" : Str)) = false := by decide)
    (hs : starEach [e] X.env = (false, eval e X.env) :: starEach [] X.env := by rfl) (hpl : (backTo pos (starEach [] X.env)).any (·.1) = false := by rfl) :
    PS X (.Raise (some (.Call (.Name x p) [e] [] pos)) none pos2) (fun _ σ H => tMkO C (sp_init C f) [] (tCons te tNil) σ H fun cls d H' => W cls d σ H') :=
  ps_raise hc tk (pmk_oexB T.oex T.iC T.tI T.ini (rm.mono hk) T.bd .nil pass0 hg T.gC (pa_cons he pa_nil hs) hdb hs hpl)
end
section
variable {P : Program} {w : World} {K : PySem.W.Frag} {mg : Str → Option Value} {bh : Heap} {C : Addr} {f qu : Str} {st : Stmt} {fI : Addr} {fd : FuncData} {q1 q2 q3 q4 : Pos}
theorem ok_initB (F : Fun K "__init__" qu st fI fd) (S : FnScope ["self", f] ["self", f] (defScope st)) (O : OexB K C) (noF : PySem.W.findIn K (.ref C) f = some none)
    (hb : defBody st = [.Assign [.Attribute (.Name "self" q1) f q2] (.Name f q3) q4]) (hf1 : (f == ("__debug__" : Str)) = false) (hf2 : (f == ("__classdict__" : Str)) = false)
    (v0 : (defScope st).names.lookup ("self" : Str) = some .local) (v1 : (defScope st).names.lookup f = some .local) : FnOk P w K mg bh CX0 1 fI fd ["self", f] (sp_init C f) := by
  refine F.ok S (fun vs H Q E h => ?_) (fun cdv A outer s H vs Q E hr h => ?_)
  · obtain ⟨a, v, rfl, _⟩ := h
    rfl
  · obtain ⟨a, v, rfl, ha, q⟩ := h
    rw [hb]
    refine ⟨_, pss_one (ps_ostB (pv 0 rfl (Or.inl v0) (by decide) (by decide)) (pv 1 rfl (Or.inl v1) hf1 hf2)), ?_⟩
    exact ⟨_, rfl, _, rfl, a, C, rfl, O, noF, ha, fun dx n ne => q dx n ne⟩
end
end Spk

namespace Spk
open PySem PySem.Spec PyProof.Rows L2
/-! ### signs between instances: the methods of their class -/
section
variable {X : Cx} {pins : List (Addr × Obj)} {σ : L2.St} {H : Hp} {s : Shared} {k j : Nat} {f C : Addr} {sp : Sp}
/-- the callee runs, wherever below the body -/
theorem run_at {A : Around} {Q : VK} {us : List Value} {vs : List V} {E' : Value → Shared → Prop} (F : FnR X.prog X.w X.K X.mg X.base CX0 k f sp) (rm : Room k A) (hf : A.frames = X.A.frames) (I : Inv X pins σ H s) (r : Vals vs us) (h : sp vs H Q E0) :
    wpAny (model X.prog X.w) A (call (.ref f) us) (EP X pins σ Q) E' s := by
  have e := I.env0
  have e0 : Env0 X.prog X.w X.K X.mg X.base A X.stack s H := ⟨by rw [hf]; exact e.frames, e.mod, e.bs, e.bsz, e.funs, e.frf, e.hok, e.bare⟩
  refine wpAny_call (codeAny_mono (F A X.stack s H us vs Q E0 rm e0 r h) fun r s' hq => ?_)
  cases r with
  | error e => exact False.elim hq
  | ok fl =>
    cases fl with
    | ret u => exact I.after hq
    | next => exact False.elim hq
    | brk => exact False.elim hq
    | cont => exact False.elim hq
/-- x op y, both instances of the class at C, by its method at f; what it gives is an object -/
def rOwn (C : Addr) (sp : Sp) : R2 := fun x y H Q => ∃ a b dx dy fs gs, x = .ref a ∧ y = .ref b ∧ H a = some (.ins C dx fs) ∧ H b = some (.ins C dy gs) ∧ sp [x, y] H (fun v H' => (∃ c, v = .ref c) ∧ Q v H') E0
theorem op_own {op : Operator} (F : FnR X.prog X.w X.K X.mg X.base CX0 k f sp) (rm : Room j X.A) (hj : k ≤ j) (hc : PySem.W.selfFirst X.K C = true) (hs : PySem.W.findIn X.K (.ref C) (PySem.dunder op.info.2) = some (some (.ref f))) (hf : PySem.W.isFn X.K (.ref f) = true) :
    OpR X (binaryOp op) (rOwn C sp) := by
  intro pins s σ H x y v u Q I rx ry h
  obtain ⟨a, b, dx, dy, fs, gs, rfl, rfl, ha, hb, hsp⟩ := h
  cases rx
  cases ry
  obtain ⟨mA, J, _⟩ := ins_get I.hok ha
  obtain ⟨mB, J', _⟩ := ins_get I.hok hb
  obtain ⟨od, J, _⟩ := J.look
  obtain ⟨od', J', _⟩ := J'.look
  obtain ⟨m, hF⟩ := I.fr
  refine PySem.W.binop_K hF I.ok.mod.kin J J'.type hc hs hf ?_
  refine thn (run_at F (rm.mono hj) rfl I (vs := [V.ref a, V.ref b]) (.cons rfl (.cons rfl .nil)) hsp) fun w s' ⟨z, H', I', rz, ⟨c, ez⟩, q⟩ => ?_
  subst ez
  obtain rfl : w = Value.ref c := rz
  exact ⟨.ref c, H', I', rfl, q⟩
/-- ~x -/
def rInv (C : Addr) (sp : Sp) : V → Hp → VK → Prop := fun x H Q => ∃ a dx fs, x = .ref a ∧ H a = some (.ins C dx fs) ∧ sp [x] H Q E0
theorem un_inv (F : FnR X.prog X.w X.K X.mg X.base CX0 k f sp) (rm : Room j X.A) (hj : k ≤ j) (hs : PySem.W.findIn X.K (.ref C) "__invert__" = some (some (.ref f))) (hf : PySem.W.isFn X.K (.ref f) = true) : UnR X (unaryOp .Invert) (rInv C sp) := by
  intro pins s σ H x v Q I rx h
  obtain ⟨a, dx, fs, rfl, ha, hsp⟩ := h
  cases rx
  obtain ⟨mA, J, _⟩ := ins_get I.hok ha
  obtain ⟨od, J, _⟩ := J.look
  obtain ⟨m, hF⟩ := I.fr
  exact PySem.W.ksp_inv hF I.ok.mod.kin J hs hf (run_at F (rm.mono hj) rfl I (vs := [V.ref a]) (.cons rfl .nil) hsp)
/-- -x -/
theorem un_negOwn (F : FnR X.prog X.w X.K X.mg X.base CX0 k f sp) (rm : Room j X.A) (hj : k ≤ j) (hs : PySem.W.findIn X.K (.ref C) "__neg__" = some (some (.ref f))) (hf : PySem.W.isFn X.K (.ref f) = true) : UnR X (unaryOp .USub) (rInv C sp) := by
  intro pins s σ H x v Q I rx h
  obtain ⟨a, dx, fs, rfl, ha, hsp⟩ := h
  cases rx
  obtain ⟨mA, J, _⟩ := ins_get I.hok ha
  obtain ⟨od, J, _⟩ := J.look
  obtain ⟨m, hF⟩ := I.fr
  exact PySem.W.ksp_neg hF I.ok.mod.kin J hs hf (run_at F (rm.mono hj) rfl I (vs := [V.ref a]) (.cons rfl .nil) hsp)
/-- len(x) -/
def rLenOwn (C : Addr) (sp : Sp) : List V → Hp → VK → Prop := fun xs H Q => ∃ a dx fs, xs = [.ref a] ∧ H a = some (.ins C dx fs) ∧ sp xs H (fun v H' => ∃ n : Int, v = .int n ∧ (0 ≤ n ∧ n < 9223372036854775808) ∧ Q (.int n) H') E0
theorem call_lenOwn (F : FnR X.prog X.w X.K X.mg X.base CX0 k f sp) (rm : Room j X.A) (hj : k + 1 ≤ j) (hs : PySem.W.findIn X.K (.ref C) "__len__" = some (some (.ref f))) (hf : PySem.W.isFn X.K (.ref f) = true) : CallR X (.builtin "len") (rLenOwn C sp) := by
  intro pins s σ H xs us Q I r h
  obtain ⟨a, dx, fs, rfl, ha, hsp⟩ := h
  have r0 := r
  obtain ⟨u, rfl, rx⟩ := vals1 r
  cases rx
  obtain ⟨mA, J, _⟩ := ins_get I.hok ha
  obtain ⟨od, J, _⟩ := J.look
  obtain ⟨m, hF⟩ := I.fr
  refine PySem.W.len_K hF I.ok.mod.kin J hs hf ?_
  refine thn (run_at F (rm.mono hj).in1 rfl I r0 hsp) fun w s' ⟨z, H', I', rz, n, ez, hn, q⟩ => ?_
  subst ez
  obtain ⟨t, rfl⟩ : ∃ t, w = Value.int n t := rz
  exact ⟨⟨hn.1, hn.2⟩, .int n, H', I'.tok _, ⟨_, rfl⟩, q⟩
/-- x == y, x an instance of the class at C with the text's own ==, y one too -/
def rEqOwn (C D : Addr) (sp : Sp) : R2 := fun x y H Q => ∃ a b dx dy fs gs, x = .ref a ∧ y = .ref b ∧ H a = some (.ins C dx fs) ∧ H b = some (.ins D dy gs) ∧ sp [x, y] H (fun v H' => (∃ c, v = .bl c) ∧ Q v H') E0
theorem op_eqOwn {D : Addr} (F : FnR X.prog X.w X.K X.mg X.base CX0 k f sp) (rm : Room j X.A) (hj : k ≤ j) (hn : PySem.W.notFirst X.K C (.ref D) = true) (hs : PySem.W.findIn X.K (.ref C) "__eq__" = some (some (.ref f))) (hf : PySem.W.isFn X.K (.ref f) = true) :
    OpR X (compareOp .Eq) (rEqOwn C D sp) := by
  intro pins s σ H x y v u Q I rx ry h
  obtain ⟨a, b, dx, dy, fs, gs, rfl, rfl, ha, hb, hsp⟩ := h
  cases rx
  cases ry
  obtain ⟨mA, J, _⟩ := ins_get I.hok ha
  obtain ⟨mB, J', _⟩ := ins_get I.hok hb
  obtain ⟨od, J, _⟩ := J.look
  obtain ⟨od', J', _⟩ := J'.look
  obtain ⟨m, hF⟩ := I.fr
  show wpAny (model X.prog X.w) X.A (richCompare .Eq (.ref a) (.ref b)) (EP X pins σ Q) X.xe s
  refine PySem.W.cmp_K (op := .Eq) (tb := .ref D) (rm.mono hj).units0 hF I.ok.mod.kin J J'.type hn hs hf ?_
  refine thn (run_at F (rm.mono hj) rfl I (vs := [V.ref a, V.ref b]) (.cons rfl (.cons rfl .nil)) hsp) fun w s' ⟨z, H', I', rz, ⟨c, ez⟩, q⟩ => ?_
  subst ez
  cases rz
  exact ⟨.bl c, H', I', rfl, q⟩
/-- y in x, x an instance with an own __contains__ that gives a truth -/
def rInOwn (C : Addr) (sp : Sp) : R2 := fun y x H Q => ∃ a dx fs, x = .ref a ∧ H a = some (.ins C dx fs) ∧ sp [x, y] H (fun v H' => (∃ c, v = .bl c) ∧ Q v H') E0
theorem op_inOwn (F : FnR X.prog X.w X.K X.mg X.base CX0 k f sp) (rm : Room j X.A) (hj : k ≤ j) (hs : PySem.W.findIn X.K (.ref C) "__contains__" = some (some (.ref f))) (hf : PySem.W.isFn X.K (.ref f) = true) : OpR X (compareOp .In) (rInOwn C sp) := by
  intro pins s σ H y x u v Q I ry rx h
  obtain ⟨a, dx, fs, rfl, ha, hsp⟩ := h
  cases rx
  obtain ⟨mA, J, _⟩ := ins_get I.hok ha
  obtain ⟨od, J, _⟩ := J.look
  obtain ⟨m, hF⟩ := I.fr
  refine PySem.W.in_K hF I.ok.mod.kin J hs hf ?_
  refine thn (run_at F (rm.mono hj) rfl I (vs := [V.ref a, y]) (.cons rfl (.cons ry .nil)) hsp) fun w s' ⟨z, H', I', rz, ⟨c, ez⟩, q⟩ => ?_
  subst ez
  cases rz
  exact wpAny_truthy_bool ⟨.bl c, H', I', rfl, q⟩
/-- an instance as a test, by an own __bool__ that gives a truth -/
def tBoolOwn (C : Addr) (sp : Sp) (ta : TE) : TT := fun σ H Q => ta σ H fun x H1 => ∃ a dx fs, x = .ref a ∧ H1 a = some (.ins C dx fs) ∧ sp [x] H1 (fun v H' => ∃ c, v = .bl c ∧ Q c H') E0
theorem pt_boolOwn {a : Expr} {ta : TE} (ha : PE X a ta) (F : FnR X.prog X.w X.K X.mg X.base CX0 k f sp) (rm : Room j X.A) (hj : k ≤ j) (hs : PySem.W.findIn X.K (.ref C) "__bool__" = some (some (.ref f))) (hf : PySem.W.isFn X.K (.ref f) = true)
    (he : ∀ whole, isTrue a X.env whole = (do let v ← whole; standAt a.pos; holding [v] (truthy v))) : PT X a (tBoolOwn C sp ta) := by
  refine ⟨fun pins s σ H Q I h => ?_⟩
  refine isTrue_plain (thn (ha.run pins s σ H _ I h) fun v s1 ⟨x, H1, I1, rx, o, dx, fs, ex, ho, hsp⟩ => ?_) (he _)
  subst ex
  obtain rfl : v = Value.ref o := rx
  obtain ⟨mA, J, _⟩ := ins_get I1.hok ho
  obtain ⟨od, J, _⟩ := J.look
  obtain ⟨m, hF⟩ := I1.fr
  refine PySem.W.truthy_K hF I.ok.mod.kin J hs hf ?_
  refine thn (run_at F (rm.mono hj) rfl I1 (vs := [V.ref o]) (.cons rfl .nil) hsp) fun w s' ⟨z, H', I', rz, c, ez, q⟩ => ?_
  subst ez
  cases rz
  exact ⟨H', I', q⟩
end
end Spk
namespace Spk
open PySem PySem.Spec PyProof.Rows L2
/-! ### what a spread leaves free -/
def uncZ (us : List Pr) : List Pr := (-10000000000000000000000000000000 :: us.map fun p : Pr => p.2).zip ((us.map fun p : Pr => p.1) ++ [10000000000000000000000000000000])
def uncM (us : List Pr) : List Pr := (uncZ us).filter fun p => decide (p.1 < p.2)
theorem uncZ_len (us : List Pr) : (uncZ us).length = us.length + 1 := by
  unfold uncZ
  rw [List.length_zip, List.length_cons, List.length_append, List.length_map, List.length_map, List.length_singleton]
  omega
theorem uncZ_at {us : List Pr} {i : Nat} {b e : Int} (hb : (-10000000000000000000000000000000 :: us.map fun p : Pr => p.2)[i]? = some b) (he : ((us.map fun p : Pr => p.1) ++ [10000000000000000000000000000000])[i]? = some e) : (uncZ us)[i]? = some (b, e) :=
  List.getElem?_zip_eq_some.mpr ⟨hb, he⟩
theorem strP_edges {p : Pr} (h : strP p = true) : edgeI p.1 = true ∧ edgeI p.2 = true := by
  unfold strP at h
  simp only [Bool.and_eq_true] at h
  exact ⟨h.1.1, h.1.2⟩
theorem uncM_str {us : List Pr} (h : ∀ u ∈ us, strP u = true) : ∀ p ∈ uncM us, strP p = true := by
  intro p hp
  obtain ⟨hz, hl⟩ := List.mem_filter.mp hp
  have hl : p.1 < p.2 := of_decide_eq_true hl
  obtain ⟨h1, h2⟩ := List.of_mem_zip (a := p.1) (b := p.2) hz
  have e1 : edgeI p.1 = true := by
    rcases List.mem_cons.mp h1 with e | h1
    · rw [e]; decide +kernel
    · obtain ⟨u, hu, e⟩ := List.mem_map.mp h1
      rw [← e]; exact (strP_edges (h u hu)).2
  have e2 : edgeI p.2 = true := by
    rcases List.mem_append.mp h2 with h2 | h2
    · obtain ⟨u, hu, e⟩ := List.mem_map.mp h2
      rw [← e]; exact (strP_edges (h u hu)).1
    · rw [List.mem_singleton.mp h2]; decide +kernel
  have b1 : -10000000000000000000000000000000 ≤ p.1 := by
    unfold edgeI at e1
    simp only [Bool.and_eq_true, Bool.or_eq_true, decide_eq_true_eq] at e1
    omega
  have b2 : p.2 ≤ 10000000000000000000000000000000 := by
    unfold edgeI at e2
    simp only [Bool.and_eq_true, Bool.or_eq_true, decide_eq_true_eq] at e2
    omega
  unfold strP
  rw [e1, e2, decide_eq_true (show p.1 ≤ p.2 by omega), decide_eq_true (show p.1 < 10000000000000000000000000000000 by omega), decide_eq_true (show p.2 > -10000000000000000000000000000000 by omega)]
  rfl
theorem uncM_len (us : List Pr) : (uncM us).length ≤ us.length + 1 := by
  refine Nat.le_trans (List.length_filter_le ..) ?_
  rw [uncZ_len]
  exact Nat.le_refl _
/-- Spreads beside Spans, as isinstance asks -/
structure SprI (K : PySem.W.Frag) (CS CD : Addr) : Prop where
  sp : SprC K CD
  sn : SpnC K CS
  self : PySem.W.selfFirst K CD = true
  noS : PySem.W.kitOne K (.ref CD) (.ref CS) = some false
  noI : PySem.W.kitOne K (.ref CD) (.type "int") = some false
  ha : PySem.W.findIn K (.ref CD) "__class__" = some (some (.builtin "object.__class__"))
  hm : PySem.W.mroIn K CD (.type "object") = some true
theorem SprI.ty {K : PySem.W.Frag} {CS CD a dx : Addr} {fs : List (Str × V)} {H : Hp} (c : SprI K CS CD) (e : H a = some (.ins CD dx fs)) : TyX K H (.ref a) (.ref CD) := .base (.ins e c.sp.cl c.ha c.sn.hn c.sn.ht c.hm)
end Spk
namespace Spk
open PySem PySem.Spec PyProof.Rows L2
/-- an own operator's method, ready to be used -/
structure RdyOp (P : Program) (w : World) (K : PySem.W.Frag) (mg : Str → Option Value) (bh : Heap) (C : Addr) (m : Str) (k : Nat) (sp : Sp) (f : Addr) : Prop where
  ok : FnR P w K mg bh CX0 k f sp
  at_ : PySem.W.findIn K (.ref C) m = some (some (.ref f))
  fn : PySem.W.isFn K (.ref f) = true
section
variable {X : Cx} {k j : Nat} {C f : Addr} {sp : Sp} {x : Str} {e : Expr} {es : List Expr} {t : TA} {p pos : Pos}
/-- C(e, ..), C a class made of any number of values -/
theorem pe_rdyMs1 (R : RdyMs X.prog X.w X.K X.mg X.base x C k sp f) (rm : Room j X.A) (hj : k + 1 ≤ j) (hg : Gl X x) (ha : PA X (e :: es) t) (hdb : (x == ("__debug__" : Str)) = false := by decide)
    (he : starEach (e :: es) X.env = (false, eval e X.env) :: starEach es X.env := by rfl) (hpl : (backTo pos (starEach es X.env)).any (·.1) = false := by rfl) :
    PE X (.Call (.Name x p) (e :: es) [] pos) (StX.tMakeR C sp E0 t) := StX.pe_makeR R.mkr R.ok (rm.mono hj) hg R.gl pass0 ha hdb he hpl
theorem op_rdy {op : Operator} {m : Str} (R : RdyOp X.prog X.w X.K X.mg X.base C m k sp f) (hm : PySem.dunder op.info.2 = m) (rm : Room j X.A) (hj : k ≤ j) (hc : PySem.W.selfFirst X.K C = true) : OpR X (binaryOp op) (rOwn C sp) :=
  op_own R.ok rm hj hc (by rw [hm]; exact R.at_) R.fn
theorem inv_rdy (R : RdyOp X.prog X.w X.K X.mg X.base C "__invert__" k sp f) (rm : Room j X.A) (hj : k ≤ j) : UnR X (unaryOp .Invert) (rInv C sp) := un_inv R.ok rm hj R.at_ R.fn
end
theorem IsSpr.ins {H : Hp} {C o : Addr} {us : List Pr} (h : IsSpr H C o us) : ∃ dx fs, H o = some (.ins C dx fs) := by
  obtain ⟨dx, t, ts, h1, _⟩ := h
  exact ⟨dx, _, h1⟩
end Spk
namespace Spk
open PySem PySem.Spec PyProof.Rows L2
def invM (us : List Pr) : List Pr := unionM false (uncM us)
def orM (us ws : List Pr) : List Pr := unionM false (us ++ ws)
def andM (us ws : List Pr) : List Pr := invM (orM (invM us) (invM ws))
def subM (us ws : List Pr) : List Pr := invM (orM (invM us) ws)
def xorM (us ws : List Pr) : List Pr := orM (subM us ws) (subM ws us)
/-- what the signs want of the pairs of a spread: stretches, at most n of them -/
structure Few (us : List Pr) (n : Nat) : Prop where
  str : ∀ u ∈ us, strP u = true
  len : us.length ≤ n
theorem Few.more {us : List Pr} {n m : Nat} (h : Few us n) (e : n ≤ m) : Few us m := ⟨h.str, Nat.le_trans h.len e⟩
theorem Few.inv {us : List Pr} {n : Nat} (h : Few us n) : Few (invM us) (n + 2) := ⟨fun u hu => (union_edges (uncM_str h.str) u hu).1, Nat.le_trans (union_len false _) (by have := uncM_len us; have := h.len; omega)⟩
theorem str_app {us ws : List Pr} (h : ∀ u ∈ us, strP u = true) (k : ∀ u ∈ ws, strP u = true) : ∀ u ∈ us ++ ws, strP u = true := fun u hu => by
  rcases List.mem_append.mp hu with h' | h'
  · exact h u h'
  · exact k u h'
theorem Few.or {us ws : List Pr} {n m : Nat} (h : Few us n) (k : Few ws m) : Few (orM us ws) (n + m + 1) := ⟨fun u hu => (union_edges (str_app h.str k.str) u hu).1, Nat.le_trans (union_len false _) (by rw [List.length_append]; have := h.len; have := k.len; omega)⟩
theorem Few.sub {us ws : List Pr} {n m : Nat} (h : Few us n) (k : Few ws m) : Few (subM us ws) (n + m + 5) := (h.inv.or k).inv.more (by omega)
theorem Few.and {us ws : List Pr} {n m : Nat} (h : Few us n) (k : Few ws m) : Few (andM us ws) (n + m + 7) := (h.inv.or k.inv).inv.more (by omega)
theorem Few.xor {us ws : List Pr} {n m : Nat} (h : Few us n) (k : Few ws m) : Few (xorM us ws) (2 * (n + m) + 11) := ((h.sub k).or (k.sub h)).more (by omega)
end Spk
namespace Spk
open PySem PySem.Spec PyProof.Rows L2
theorem SprI.any {K : PySem.W.Frag} {CS CD : Addr} (c : SprI K CS CD) : PySem.W.kitAny K (.ref CD) [.ref CS, .ref CD] = some true :=
  kitAny_cons c.noS (fun _ => kitAny_cons (kit_self CD) (fun z => nomatch z) fun _ => rfl) (fun z => nomatch z)
end Spk
namespace Spk
open PySem PySem.Spec PyProof.Rows L2
/-! ### how many moments -/
def openB (p : Pr) : Bool := decide (p.1 = -10000000000000000000000000000000) || decide (p.2 = 10000000000000000000000000000000)
def durM (us : List Pr) : Option Int := if us.any openB = true then none else some ((us.map fun p : Pr => p.2 - p.1).sum)
theorem durM_open {us : List Pr} (h : us.any openB = true) : durM us = none := if_pos h
theorem durM_some {us : List Pr} (h : ¬ us.any openB = true) : durM us = some ((us.map fun p : Pr => p.2 - p.1).sum) := if_neg h
end Spk
namespace Spk
open PySem PySem.Spec PyProof.Rows L2
/-! ### within a comprehension: the written part named -/
theorem pi_sqK {X : Cx} {K : PySem.W.Frag} {tg l : Expr} {tl : TE} (hl : PE X l tl) (h : X.K = K := by rfl) : PI X tg l (iSq K tl) := h ▸ pi_sq hl
theorem op_eqDK {X : Cx} {K : PySem.W.Frag} (hu : X.A.units + 64 < cLine) (h : X.K = K := by rfl) : OpR X (compareOp .Eq) (rEqD K) := h ▸ op_eqD hu
end Spk
namespace Spk
open PySem PySem.Spec PyProof.Rows L2
/-- C(), C a class made of any number of values -/
theorem pe_rdyMs0 {X : Cx} {k j : Nat} {C f : Addr} {sp : Sp} {x : Str} {p pos : Pos} (R : RdyMs X.prog X.w X.K X.mg X.base x C k sp f) (rm : Room j X.A) (hj : k + 1 ≤ j) (hg : Gl X x) (hdb : (x == ("__debug__" : Str)) = false := by decide) :
    PE X (.Call (.Name x p) [] [] pos) (StX.tMakeR C sp E0 tNil) := by
  refine ⟨fun pins s σ H Q I h => ?_⟩
  refine wpAny_Call_Name_kw (ld_glob I hg R.gl ?_ hdb)
  exact PySem.W.callWith_K0 I.kIn R.mkr.kp (StX.run_makeR (us := []) (vs := []) R.mkr R.ok (rm.mono hj) pass0 I .nil h)
end Spk

namespace Spk
open PySem PySem.Spec PyProof.Rows L2
/-! ### the pure layer: what a def computes, as a function of data -/
/-- data as the texts here use it: an instance is its class's name, its fields' names and what they hold -/
inductive D where
  | non | bl (b : Bool) | int (i : Int) | str (x : Str) | lst (ds : List D) | tup (ds : List D) | ins (C : Str) (ks : List Str) (ds : List D) | scr (ns : List Int)
/-- the written part, and where a class of a name stands -/
structure Gx where
  K : PySem.W.Frag
  cm : Str → Addr
  /-- the exception that is handled: where it stands, its class, its dict -/
  ex : Option (Addr × Value × Option Addr) := none
mutual
inductive Rp (G : Gx) (H : Hp) : V → D → Prop
  | non : Rp G H .non .non
  | bl (b : Bool) : Rp G H (.bl b) (.bl b)
  | int (i : Int) : Rp G H (.int i) (.int i)
  | str {x : Str} (h : PyData.canLay0 (.str x) = true) : Rp G H (.str x) (.str x)
  | lst {a : Addr} {xs : List V} {ds : List D} : H a = some (.lst xs) → RpL G H xs ds → Rp G H (.ref a) (.lst ds)
  | scr {a : Addr} {ns : List Int} : SqL G.K H a (ns.map V.int) → Rp G H (.ref a) (.scr ns)
  | tup {a : Addr} {xs : List V} {ds : List D} : SqT G.K H a xs → RpL G H xs ds → Rp G H (.ref a) (.tup ds)
  | ins {a dx : Addr} {C : Str} {ks : List Str} {xs : List V} {ds : List D} : H a = some (.ins (G.cm C) dx (ks.zip xs)) → xs.length = ks.length → RpL G H xs ds → Rp G H (.ref a) (.ins C ks ds)
inductive RpL (G : Gx) (H : Hp) : List V → List D → Prop
  | nil : RpL G H [] []
  | cons {v : V} {vs : List V} {d : D} {ds : List D} : Rp G H v d → RpL G H vs ds → RpL G H (v :: vs) (d :: ds)
end
section
variable {G : Gx} {H H' : Hp}
mutual
theorem Rp.same (e : Same H H') : ∀ (d : D) {v : V}, Rp G H v d → Rp G H' v d
  | .non, _, h => by cases h; exact .non
  | .bl b, _, h => by cases h; exact .bl b
  | .int i, _, h => by cases h; exact .int i
  | .str x, _, h => by cases h with | str h => exact .str h
  | .lst ds, _, h => by cases h with | lst q r => exact .lst (e _ _ q) (RpL.same e ds r)
  | .scr ns, _, h => by cases h with | scr q => exact .scr (e.seq q)
  | .tup ds, _, h => by cases h with | tup q r => exact .tup (sameT e q) (RpL.same e ds r)
  | .ins C ks ds, _, h => by cases h with | ins q l r => exact .ins (e _ _ q) l (RpL.same e ds r)
theorem RpL.same (e : Same H H') : ∀ (ds : List D) {vs : List V}, RpL G H vs ds → RpL G H' vs ds
  | [], _, h => by cases h; exact .nil
  | d :: ds, _, h => by cases h with | cons a b => exact .cons (Rp.same e d a) (RpL.same e ds b)
end
theorem Rp.mono {v : V} {d : D} (h : Rp G H v d) (e : Same H H') : Rp G H' v d := Rp.same e d h
theorem RpL.mono {vs : List V} {ds : List D} (h : RpL G H vs ds) (e : Same H H') : RpL G H' vs ds := RpL.same e ds h
theorem RpL.len : ∀ {vs : List V} {ds : List D}, RpL G H vs ds → vs.length = ds.length
  | _, _, .nil => rfl
  | _, _, .cons _ r => congrArg (· + 1) (RpL.len r)
theorem RpL.get : ∀ {vs : List V} {ds : List D}, RpL G H vs ds → ∀ {i : Nat} {v : V}, vs[i]? = some v → ∃ d, ds[i]? = some d ∧ Rp G H v d
  | _, _, .nil, _, _, e => by simp at e
  | _, _, .cons r _, 0, v, e => by
    obtain rfl := Option.some.inj (by simpa using e)
    exact ⟨_, rfl, r⟩
  | _, _, .cons _ t, i + 1, v, e => by
    obtain ⟨d, h1, h2⟩ := RpL.get t (i := i) (v := v) (by simpa using e)
    exact ⟨d, by simpa using h1, h2⟩
theorem RpL.getD : ∀ {vs : List V} {ds : List D}, RpL G H vs ds → ∀ {i : Nat} {d : D}, ds[i]? = some d → ∃ v, vs[i]? = some v ∧ Rp G H v d
  | _, _, .nil, _, _, e => by simp at e
  | _, _, .cons r _, 0, v, e => by
    obtain rfl := Option.some.inj (by simpa using e)
    exact ⟨_, rfl, r⟩
  | _, _, .cons _ t, i + 1, v, e => by
    obtain ⟨d, h1, h2⟩ := RpL.getD t (i := i) (d := v) (by simpa using e)
    exact ⟨d, by simpa using h1, h2⟩
theorem RpL.app : ∀ {vs : List V} {ds : List D} {ws : List V} {es : List D}, RpL G H vs ds → RpL G H ws es → RpL G H (vs ++ ws) (ds ++ es)
  | _, _, _, _, .nil, s => s
  | _, _, _, _, .cons r t, s => .cons r (RpL.app t s)
theorem RpL.take : ∀ {vs : List V} {ds : List D} (n : Nat), RpL G H vs ds → RpL G H (vs.take n) (ds.take n)
  | _, _, 0, _ => .nil
  | _, _, _ + 1, .nil => .nil
  | _, _, n + 1, .cons r t => .cons r (RpL.take n t)
theorem RpL.drop : ∀ {vs : List V} {ds : List D} (n : Nat), RpL G H vs ds → RpL G H (vs.drop n) (ds.drop n)
  | _, _, 0, r => r
  | _, _, _ + 1, .nil => .nil
  | _, _, n + 1, .cons _ t => RpL.drop n t
theorem RpL.set {v : V} {d : D} (r : Rp G H v d) : ∀ {vs : List V} {ds : List D} (i : Nat), RpL G H vs ds → RpL G H (vs.set i v) (ds.set i d)
  | _, _, _, .nil => .nil
  | _, _, 0, .cons _ t => .cons r t
  | _, _, i + 1, .cons q t => .cons q (RpL.set r i t)
theorem RpL.rev : ∀ {vs : List V} {ds : List D}, RpL G H vs ds → RpL G H vs.reverse ds.reverse
  | _, _, .nil => .nil
  | _, _, .cons r t => by rw [List.reverse_cons, List.reverse_cons]; exact (RpL.rev t).app (.cons r .nil)
end
/-! ### a def's names: what their slots hold -/
/-- not known; frozen data; a list of one's own (it may change); the caller's list (it may change, and stays where it is) -/
inductive Mu where
  | lst (ds : List D) | obj (C : Str) (ks : List Str) (ds : List D)
inductive Cell where
  | no | val (d : D) | own (m : Mu) | bor (m : Mu)
  /-- the exception that is handled -/
  | exn (C f : Str) (d : D)
abbrev PEnv := List Cell
def Cell.mu? : Cell → Option Mu
  | .own m => some m
  | .bor m => some m
  | _ => none
def Mu.lst? : Mu → Option (List D)
  | .lst ds => some ds
  | _ => none
def Cell.lst? (c : Cell) : Option (List D) := c.mu?.bind Mu.lst?
theorem Cell.of_lst {c : Cell} {ds : List D} (h : c.lst? = some ds) : c.mu? = some (.lst ds) := by
  obtain ⟨m, h1, h2⟩ := Option.bind_eq_some_iff.mp h
  cases m with
  | lst es => cases h2; exact h1
  | obj C ks es => cases h2
theorem Cell.to_lst {c : Cell} {ds : List D} (h : c.mu? = some (.lst ds)) : c.lst? = some ds := by unfold Cell.lst?; rw [h]; rfl
def MuOk (G : Gx) (Hf : Hp) : HO → Mu → Prop
  | .lst vs, .lst ds => RpL G Hf vs ds
  | .ins c _ fs, .obj C ks ds => c = G.cm C ∧ ∃ vs, fs = ks.zip vs ∧ vs.length = ks.length ∧ RpL G Hf vs ds
  | _, _ => False
theorem MuOk.mono {G : Gx} {Hf Hf' : Hp} {o : HO} {m : Mu} (h : MuOk G Hf o m) (s : Same Hf Hf') : MuOk G Hf' o m := by
  cases m with
  | lst ds =>
    cases o <;> try exact h
    exact RpL.mono h s
  | obj C ks ds =>
    cases o <;> try exact h
    obtain ⟨e, vs, e2, l, r⟩ := h
    exact ⟨e, vs, e2, l, r.mono s⟩
theorem MuOk.lst {G : Gx} {Hf : Hp} {o : HO} {ds : List D} (h : MuOk G Hf o (.lst ds)) : ∃ vs, o = .lst vs ∧ RpL G Hf vs ds := by
  cases o <;> try exact h.elim
  exact ⟨_, rfl, h⟩
/-- what a def must leave alone; where the caller's lists stand -/
structure Fr where
  Pt : Hp
  Bp : Nat → Addr
structure MutOk (G : Gx) (F : Fr) (σ : L2.St) (H Hf : Hp) (i : Nat) (m : Mu) (p : Addr) : Prop where
  at_ : σ[i]? = some (some (.ref p))
  nf : Hf p = none
  np : F.Pt p = none
  ls : ∃ o, H p = some o ∧ MuOk G Hf o m
def CellOk (G : Gx) (F : Fr) (σ : L2.St) (H Hf : Hp) (i : Nat) : Cell → Prop
  | .no => True
  | .val d => ∃ v, σ[i]? = some (some v) ∧ Rp G Hf v d
  | .own ds => ∃ p, MutOk G F σ H Hf i ds p
  | .bor ds => MutOk G F σ H Hf i ds (F.Bp i)
  | .exn C f d => ∃ (a dd : Addr) (v : V), G.ex = some (a, .ref (G.cm C), some dd) ∧ σ[i]? = some (some (.ref a)) ∧ Hf dd = some (.xd [(f, v)]) ∧ Rp G Hf v d
theorem CellOk.mut {G : Gx} {F : Fr} {σ : L2.St} {H Hf : Hp} {i : Nat} {c : Cell} {ds : Mu} (h : CellOk G F σ H Hf i c) (e : c.mu? = some ds) : ∃ p, MutOk G F σ H Hf i ds p := by
  cases c with
  | no => cases e
  | val d => cases e
  | own es => obtain rfl := Option.some.inj e; exact h
  | bor es => obtain rfl := Option.some.inj e; exact ⟨_, h⟩
  | exn C f d => cases e
structure Rep (G : Gx) (F : Fr) (σ : L2.St) (H Hf : Hp) (ρ : PEnv) : Prop where
  len : σ.length = ρ.length
  sub : Same Hf H
  cell : ∀ (i : Nat) (c : Cell), ρ[i]? = some c → CellOk G F σ H Hf i c
  apart : ∀ (i j : Nat) (ci cj : Cell) (ds es : Mu) (p : Addr), ρ[i]? = some ci → ρ[j]? = some cj → ci.mu? = some ds → cj.mu? = some es → σ[i]? = some (some (.ref p)) → σ[j]? = some (some (.ref p)) → i = j
  prot : ∀ (a : Addr) (o : HO), F.Pt a = some o → H a = some o ∧ Hf a = none
section
variable {G : Gx} {F : Fr} {σ : L2.St} {H Hf H' Hf' : Hp} {ρ : PEnv}
theorem MutOk.ne {i : Nat} {ds : Mu} {p q : Addr} (m : MutOk G F σ H Hf i ds p) (nq : H q = none) : p ≠ q := by
  obtain ⟨vs, h, _⟩ := m.ls
  exact ne_of_none h nq
theorem Rep.nf (R : Rep G F σ H Hf ρ) {q : Addr} (nq : H q = none) : Hf q = none := R.sub.free nq
/-- a new frozen object -/
theorem Rep.new (R : Rep G F σ H Hf ρ) {q : Addr} (nq : H q = none) (o : HO) : Rep G F σ (upd H q o) (upd Hf q o) ρ := by
  have nf := R.nf nq
  refine ⟨R.len, fun b u e => ?_, fun i c e => ?_, R.apart, fun a u e => ?_⟩
  · by_cases h : b = q
    · subst h; rw [upd_same] at e ⊢; exact e
    · rw [upd_ne h] at e ⊢; exact R.sub _ _ e
  · have k := R.cell i c e
    have mk : ∀ ds p, MutOk G F σ H Hf i ds p → MutOk G F σ (upd H q o) (upd Hf q o) i ds p := fun ds p m => by
      obtain ⟨vs, h, r⟩ := m.ls
      have n := m.ne nq
      exact ⟨m.at_, by rw [upd_ne n]; exact m.nf, m.np, vs, by rw [upd_ne n]; exact h, r.mono (Same.new nf)⟩
    cases c with
    | no => trivial
    | val d => obtain ⟨v, h, r⟩ := k; exact ⟨v, h, r.mono (Same.new nf)⟩
    | own ds => obtain ⟨p, m⟩ := k; exact ⟨p, mk _ _ m⟩
    | bor ds => exact mk _ _ k
    | exn C f d => obtain ⟨a, dd, v, h0, h1, h2, r⟩ := k; exact ⟨a, dd, v, h0, h1, Same.new nf _ _ h2, r.mono (Same.new nf)⟩
  · obtain ⟨h1, h2⟩ := R.prot a u e
    have n := ne_of_none h1 nq
    exact ⟨by rw [upd_ne n]; exact h1, by rw [upd_ne n]; exact h2⟩
/-- a new object that nothing frozen knows of -/
theorem Rep.side (R : Rep G F σ H Hf ρ) {q : Addr} (nq : H q = none) (o : HO) : Rep G F σ (upd H q o) Hf ρ := by
  refine ⟨R.len, R.sub.trans (Same.new nq), fun i c e => ?_, R.apart, fun a u e => ?_⟩
  · have k := R.cell i c e
    have mk : ∀ ds p, MutOk G F σ H Hf i ds p → MutOk G F σ (upd H q o) Hf i ds p := fun ds p m => by
      obtain ⟨vs, h, r⟩ := m.ls
      exact ⟨m.at_, m.nf, m.np, vs, by rw [upd_ne (m.ne nq)]; exact h, r⟩
    cases c with
    | no => trivial
    | val d => exact k
    | own ds => obtain ⟨p, m⟩ := k; exact ⟨p, mk _ _ m⟩
    | bor ds => exact mk _ _ k
    | exn C f d => exact k
  · obtain ⟨h1, h2⟩ := R.prot a u e
    exact ⟨by rw [upd_ne (ne_of_none h1 nq)]; exact h1, h2⟩
theorem set_at {α : Type} {l : List α} {i j : Nat} {x y : α} (h : (l.set i x)[j]? = some y) : (i = j ∧ y = x ∧ i < l.length) ∨ (i ≠ j ∧ l[j]? = some y) := by
  by_cases e : i = j
  · subst e
    by_cases hl : i < l.length
    · rw [List.getElem?_set_self hl] at h
      exact .inl ⟨rfl, (Option.some.inj h).symm, hl⟩
    · rw [List.getElem?_eq_none (by simpa using hl)] at h
      cases h
  · rw [List.getElem?_set_ne e] at h
    exact .inr ⟨e, h⟩
/-- a slot gets frozen data -/
theorem Rep.set (R : Rep G F σ H Hf ρ) (i : Nat) {v : V} {d : D} (r : Rp G Hf v d) : Rep G F (σ.set i (some v)) H Hf (ρ.set i (.val d)) := by
  refine ⟨by rw [List.length_set, List.length_set]; exact R.len, R.sub, fun j c e => ?_, fun j k cj ck ds es p ej ek mj mk sj sk => ?_, R.prot⟩
  · rcases set_at e with ⟨rfl, rfl, hl⟩ | ⟨ne, e⟩
    · exact ⟨v, by rw [List.getElem?_set_self (by rw [R.len]; exact hl)], r⟩
    · have k := R.cell j c e
      have mk : ∀ ds p, MutOk G F σ H Hf j ds p → MutOk G F (σ.set i (some v)) H Hf j ds p := fun ds p m => ⟨by rw [List.getElem?_set_ne ne]; exact m.at_, m.nf, m.np, m.ls⟩
      cases c with
      | no => trivial
      | val d => obtain ⟨w, h, r⟩ := k; exact ⟨w, by rw [List.getElem?_set_ne ne]; exact h, r⟩
      | own ds => obtain ⟨p, m⟩ := k; exact ⟨p, mk _ _ m⟩
      | bor ds => exact mk _ _ k
      | exn C f d => obtain ⟨a, dd, v, h0, h1, h2, r⟩ := k; exact ⟨a, dd, v, h0, by rw [List.getElem?_set_ne ne]; exact h1, h2, r⟩
  · rcases set_at ej with ⟨rfl, rfl, _⟩ | ⟨n1, ej⟩
    · cases mj
    rcases set_at ek with ⟨rfl, rfl, _⟩ | ⟨n2, ek⟩
    · cases mk
    rw [List.getElem?_set_ne n1] at sj
    rw [List.getElem?_set_ne n2] at sk
    exact R.apart j k cj ck ds es p ej ek mj mk sj sk
/-- a slot gets a list of its own -/
theorem Rep.setOwn (R : Rep G F σ H Hf ρ) (i : Nat) {p : Addr} {o : HO} {ds : Mu} (hp : H p = some o) (nf : Hf p = none) (np : F.Pt p = none) (r : MuOk G Hf o ds)
    (ap : ∀ (j : Nat) (c : Cell) (es : Mu), ρ[j]? = some c → c.mu? = some es → σ[j]? ≠ some (some (.ref p))) : Rep G F (σ.set i (some (.ref p))) H Hf (ρ.set i (.own ds)) := by
  refine ⟨by rw [List.length_set, List.length_set]; exact R.len, R.sub, fun j c e => ?_, fun j k cj ck es fs q ej ek mj mk sj sk => ?_, R.prot⟩
  · rcases set_at e with ⟨rfl, rfl, hl⟩ | ⟨ne, e⟩
    · exact ⟨p, by rw [List.getElem?_set_self (by rw [R.len]; exact hl)], nf, np, o, hp, r⟩
    · have k := R.cell j c e
      have mk : ∀ ds q, MutOk G F σ H Hf j ds q → MutOk G F (σ.set i (some (.ref p))) H Hf j ds q := fun ds q m => ⟨by rw [List.getElem?_set_ne ne]; exact m.at_, m.nf, m.np, m.ls⟩
      cases c with
      | no => trivial
      | val d => obtain ⟨w, h, r⟩ := k; exact ⟨w, by rw [List.getElem?_set_ne ne]; exact h, r⟩
      | own ds => obtain ⟨q, m⟩ := k; exact ⟨q, mk _ _ m⟩
      | bor ds => exact mk _ _ k
      | exn C f d => obtain ⟨a, dd, v, h0, h1, h2, r⟩ := k; exact ⟨a, dd, v, h0, by rw [List.getElem?_set_ne ne]; exact h1, h2, r⟩
  · rcases set_at ej with ⟨rfl, rfl, hl⟩ | ⟨n1, ej⟩ <;> rcases set_at ek with ⟨rfl, rfl, hl2⟩ | ⟨n2, ek⟩
    · rfl
    · rw [List.getElem?_set_self (by rw [R.len]; exact hl)] at sj
      rw [List.getElem?_set_ne n2] at sk
      cases sj
      exact absurd sk (ap k ck fs ek mk)
    · rw [List.getElem?_set_self (by rw [R.len]; exact hl2)] at sk
      rw [List.getElem?_set_ne n1] at sj
      cases sk
      exact absurd sj (ap j cj es ej mj)
    · rw [List.getElem?_set_ne n1] at sj
      rw [List.getElem?_set_ne n2] at sk
      exact R.apart j k cj ck es fs q ej ek mj mk sj sk
/-- a slot forgotten -/
theorem Rep.drop (R : Rep G F σ H Hf ρ) (i : Nat) (x : Option V) : Rep G F (σ.set i x) H Hf (ρ.set i .no) := by
  refine ⟨by rw [List.length_set, List.length_set]; exact R.len, R.sub, fun j c e => ?_, fun j k cj ck ds es p ej ek mj mk sj sk => ?_, R.prot⟩
  · rcases set_at e with ⟨rfl, rfl, hl⟩ | ⟨ne, e⟩
    · trivial
    · have k := R.cell j c e
      have mk : ∀ ds p, MutOk G F σ H Hf j ds p → MutOk G F (σ.set i x) H Hf j ds p := fun ds p m => ⟨by rw [List.getElem?_set_ne ne]; exact m.at_, m.nf, m.np, m.ls⟩
      cases c with
      | no => trivial
      | val d => obtain ⟨w, h, r⟩ := k; exact ⟨w, by rw [List.getElem?_set_ne ne]; exact h, r⟩
      | own ds => obtain ⟨p, m⟩ := k; exact ⟨p, mk _ _ m⟩
      | bor ds => exact mk _ _ k
      | exn C f d => obtain ⟨a, dd, v, h0, h1, h2, r⟩ := k; exact ⟨a, dd, v, h0, by rw [List.getElem?_set_ne ne]; exact h1, h2, r⟩
  · rcases set_at ej with ⟨rfl, rfl, _⟩ | ⟨n1, ej⟩
    · cases mj
    rcases set_at ek with ⟨rfl, rfl, _⟩ | ⟨n2, ek⟩
    · cases mk
    rw [List.getElem?_set_ne n1] at sj
    rw [List.getElem?_set_ne n2] at sk
    exact R.apart j k cj ck ds es p ej ek mj mk sj sk
def Cell.put (c : Cell) (ds : Mu) : Cell := match c with
  | .bor _ => .bor ds
  | _ => .own ds
theorem Cell.put_lst (c : Cell) (ds : Mu) : (c.put ds).mu? = some ds := by cases c <;> rfl
/-- the list in a slot is changed -/
theorem Rep.write (R : Rep G F σ H Hf ρ) {i : Nat} {c : Cell} {ds : Mu} (e : ρ[i]? = some c) (ec : c.mu? = some ds) {p : Addr} (hs : σ[i]? = some (some (.ref p))) {ws : HO} {es : Mu} (r : MuOk G Hf ws es) :
    Rep G F σ (upd H p ws) Hf (ρ.set i (c.put es)) := by
  obtain ⟨p', m⟩ := (R.cell i c e).mut ec
  obtain rfl : p' = p := by
    have := m.at_
    rw [hs] at this
    cases this; rfl
  have hi : i < ρ.length := (List.getElem?_eq_some_iff.mp e).1
  refine ⟨by rw [List.length_set]; exact R.len, fun b o eb => ?_, fun j cj ej => ?_, fun j k cj ck es fs q ej ek mj mk sj sk => ?_, fun a o ea => ?_⟩
  · rw [upd_ne (ne_of_none eb m.nf)]; exact R.sub _ _ eb
  · rcases set_at ej with ⟨rfl, rfl, hl⟩ | ⟨ne, ej⟩
    · have new : MutOk G F σ (upd H p' ws) Hf i es p' := ⟨hs, m.nf, m.np, ws, upd_same, r⟩
      have k := R.cell i c e
      cases c with
      | no => cases ec
      | val d => cases ec
      | exn C f d => cases ec
      | own ds => exact ⟨p', new⟩
      | bor ds =>
        have : F.Bp i = p' := by
          have h := (show MutOk G F σ H Hf i ds (F.Bp i) from k).at_
          rw [hs] at h
          cases h; rfl
        show MutOk G F σ (upd H p' ws) Hf i es (F.Bp i)
        rw [this]; exact new
    · have k := R.cell j cj ej
      have mk : ∀ ds' q, cj.mu? = some ds' → MutOk G F σ H Hf j ds' q → MutOk G F σ (upd H p' ws) Hf j ds' q := fun ds' q mj m' => by
        obtain ⟨vs, h, r'⟩ := m'.ls
        have nq : q ≠ p' := fun z => ne (R.apart i j c cj ds ds' p' e ej ec mj hs (z ▸ m'.at_))
        exact ⟨m'.at_, m'.nf, m'.np, vs, by rw [upd_ne nq]; exact h, r'⟩
      cases cj with
      | no => trivial
      | val d => exact k
      | own ds => obtain ⟨q, m'⟩ := k; exact ⟨q, mk _ _ rfl m'⟩
      | bor ds => exact mk _ _ rfl k
      | exn C f d => exact k
  · rcases set_at ej with ⟨rfl, rfl, _⟩ | ⟨n1, ej⟩ <;> rcases set_at ek with ⟨rfl, rfl, _⟩ | ⟨n2, ek⟩
    · rfl
    · exact R.apart i k c ck ds fs q e ek ec mk sj sk
    · exact R.apart j i cj c es ds q ej e mj ec sj sk
    · exact R.apart j k cj ck es fs q ej ek mj mk sj sk
  · obtain ⟨h1, h2⟩ := R.prot a o ea
    have : a ≠ p' := fun z => by rw [z, m.np] at ea; cases ea
    exact ⟨by rw [upd_ne this]; exact h1, h2⟩
/-- a list of one's own is frozen -/
theorem Rep.freeze (R : Rep G F σ H Hf ρ) {i : Nat} {ds : List D} (e : ρ[i]? = some (.own (.lst ds))) : ∃ Hf', Same Hf Hf' ∧ Rep G F σ H Hf' (ρ.set i (.val (.lst ds))) := by
  obtain ⟨p, m⟩ := R.cell i _ e
  obtain ⟨o0, hp, r0⟩ := m.ls
  obtain ⟨vs, rfl, r⟩ := r0.lst
  have sf : Same Hf (upd Hf p (.lst vs)) := Same.new m.nf
  refine ⟨upd Hf p (.lst vs), sf, by rw [List.length_set]; exact R.len, fun b o eb => ?_, fun j c ej => ?_, fun j k cj ck es fs q ej ek mj mk sj sk => ?_, fun a o ea => ?_⟩
  · by_cases h : b = p
    · subst h; rw [upd_same] at eb; cases eb; exact hp
    · rw [upd_ne h] at eb; exact R.sub _ _ eb
  · rcases set_at ej with ⟨rfl, rfl, hl⟩ | ⟨ne, ej⟩
    · exact ⟨.ref p, m.at_, .lst upd_same (r.mono sf)⟩
    · have k := R.cell j c ej
      have mk : ∀ ds' q, c.mu? = some ds' → MutOk G F σ H Hf j ds' q → MutOk G F σ H (upd Hf p (.lst vs)) j ds' q := fun ds' q mj m' => by
        obtain ⟨ws, h, r'⟩ := m'.ls
        have nq : q ≠ p := fun z => ne (R.apart i j _ c (.lst ds) ds' p e ej rfl mj m.at_ (z ▸ m'.at_))
        exact ⟨m'.at_, by rw [upd_ne nq]; exact m'.nf, m'.np, ws, h, r'.mono sf⟩
      cases c with
      | no => trivial
      | val d => obtain ⟨w, h, r⟩ := k; exact ⟨w, h, r.mono sf⟩
      | own ds => obtain ⟨q, m'⟩ := k; exact ⟨q, mk _ _ rfl m'⟩
      | bor ds => exact mk _ _ rfl k
      | exn C f d => obtain ⟨a, dd, v, h0, h1, h2, r⟩ := k; exact ⟨a, dd, v, h0, h1, sf _ _ h2, r.mono sf⟩
  · rcases set_at ej with ⟨rfl, rfl, _⟩ | ⟨n1, ej⟩
    · cases mj
    rcases set_at ek with ⟨rfl, rfl, _⟩ | ⟨n2, ek⟩
    · cases mk
    exact R.apart j k cj ck es fs q ej ek mj mk sj sk
  · obtain ⟨h1, h2⟩ := R.prot a o ea
    exact ⟨h1, by rw [upd_ne (fun z => by rw [z, m.np] at ea; cases ea)]; exact h2⟩
end
end Spk

namespace Spk
open PySem PySem.Spec PyProof.Rows L2
/-! ### what an expression, a statement computes -/
inductive Rs (α : Type) where
  | ok (a : α) (ρ : PEnv) | exc (C f : Str) (d : D) (ρ : PEnv) | bad
namespace Rs
def bind {α β : Type} : Rs α → (α → PEnv → Rs β) → Rs β
  | .ok a ρ, k => k a ρ
  | .exc C f d ρ, _ => .exc C f d ρ
  | .bad, _ => .bad
@[simp] theorem bind_ok {α β : Type} {a : α} {ρ : PEnv} {k : α → PEnv → Rs β} : (Rs.ok a ρ).bind k = k a ρ := rfl
@[simp] theorem bind_exc {α β : Type} {C f : Str} {d : D} {ρ : PEnv} {k : α → PEnv → Rs β} : (Rs.exc C f d ρ : Rs α).bind k = .exc C f d ρ := rfl
@[simp] theorem bind_bad {α β : Type} {k : α → PEnv → Rs β} : (Rs.bad : Rs α).bind k = .bad := rfl
def lift {α : Type} : Option α → PEnv → Rs α
  | some a, ρ => .ok a ρ
  | none, _ => .bad
@[simp] theorem lift_some {α : Type} {a : α} {ρ : PEnv} : lift (some a) ρ = .ok a ρ := rfl
@[simp] theorem lift_none {α : Type} {ρ : PEnv} : lift (none : Option α) ρ = .bad := rfl
end Rs
abbrev EX := PEnv → Rs D
/-- what is handed on: frozen data, or the slot of a list of one's own -/
inductive Arg where
  | val (d : D) | sl (i : Nat)
/-- an operand: an expression, or a name whose slot has a list of one's own -/
inductive Opd where
  | ex (f : EX) | sl (i : Nat)
def Arg.dat (ρ : PEnv) : Arg → Option D
  | .val d => some d
  | .sl i => (ρ[i]?.bind Cell.lst?).map D.lst
def Opd.ev : Opd → PEnv → Rs Arg
  | .ex f, ρ => (f ρ).bind fun d ρ' => .ok (.val d) ρ'
  | .sl i, ρ => match ρ[i]?.bind Cell.mu? with
    | some _ => .ok (.sl i) ρ
    | none => .bad
def evs : List Opd → PEnv → Rs (List Arg)
  | [], ρ => .ok [] ρ
  | o :: os, ρ => (o.ev ρ).bind fun a ρ1 => (evs os ρ1).bind fun as ρ2 => .ok (a :: as) ρ2
def dats (ρ : PEnv) : List Arg → Option (List D)
  | [] => some []
  | a :: as => (a.dat ρ).bind fun d => (dats ρ as).map (d :: ·)
section
variable {G : Gx} {F : Fr} {σ : L2.St} {H Hf H' Hf' : Hp} {ρ ρ' : PEnv}
def ArgOk (G : Gx) (σ : L2.St) (Hf : Hp) (v : V) : Arg → Prop
  | .val d => Rp G Hf v d
  | .sl i => σ[i]? = some (some v)
theorem ArgOk.mono {v : V} {a : Arg} (h : ArgOk G σ Hf v a) (s : Same Hf Hf') : ArgOk G σ Hf' v a := by
  cases a with
  | val d => exact Rp.mono h s
  | sl i => exact h
/-- what is handed on, as one may read it -/
def Rq (G : Gx) (H Hf : Hp) (v : V) (d : D) : Prop := Rp G Hf v d ∨ ∃ p vs ds, v = .ref p ∧ d = .lst ds ∧ H p = some (.lst vs) ∧ RpL G Hf vs ds
theorem Rq.rp {v : V} {d : D} (h : Rq G H Hf v d) (s : Same Hf H) : Rp G H v d := by
  rcases h with h | ⟨p, vs, ds, rfl, rfl, hp, r⟩
  · exact h.mono s
  · exact .lst hp (r.mono s)
theorem Rq.lst {v : V} {ds : List D} (h : Rq G H Hf v (.lst ds)) (s : Same Hf H) : ∃ p vs, v = .ref p ∧ H p = some (.lst vs) ∧ RpL G Hf vs ds := by
  rcases h with h | ⟨p, vs, es, rfl, e, hp, r⟩
  · cases h with | lst q r => exact ⟨_, _, rfl, s _ _ q, r⟩
  · cases e; exact ⟨p, vs, rfl, hp, r⟩
theorem Rq.nl {v : V} {d : D} (h : Rq G H Hf v d) (n : ∀ ds, d ≠ .lst ds) : Rp G Hf v d := by
  rcases h with h | ⟨p, vs, es, rfl, e, hp, r⟩
  · exact h
  · exact absurd e (n es)
theorem ArgOk.rq {v : V} {a : Arg} {d : D} (R : Rep G F σ H Hf ρ) (h : ArgOk G σ Hf v a) (e : a.dat ρ = some d) : Rq G H Hf v d := by
  cases a with
  | val d' => cases e; exact .inl h
  | sl i =>
    cases hc : ρ[i]? with
    | none => simp [Arg.dat, hc] at e
    | some c =>
      cases hl : c.lst? with
      | none => simp [Arg.dat, hc, hl] at e
      | some ds =>
        simp [Arg.dat, hc, hl] at e
        subst e
        obtain ⟨p, m⟩ := (R.cell i c hc).mut (Cell.of_lst hl)
        obtain ⟨o0, hp, r0⟩ := m.ls
        obtain ⟨vs, rfl, r⟩ := r0.lst
        have h : σ[i]? = some (some v) := h
        rw [m.at_] at h
        cases h
        exact .inr ⟨p, vs, ds, rfl, rfl, hp, r⟩
inductive ArgsOk (G : Gx) (σ : L2.St) (Hf : Hp) : List V → List Arg → Prop
  | nil : ArgsOk G σ Hf [] []
  | cons {v : V} {vs : List V} {a : Arg} {as : List Arg} : ArgOk G σ Hf v a → ArgsOk G σ Hf vs as → ArgsOk G σ Hf (v :: vs) (a :: as)
inductive RqL (G : Gx) (H Hf : Hp) : List V → List D → Prop
  | nil : RqL G H Hf [] []
  | cons {v : V} {vs : List V} {d : D} {ds : List D} : Rq G H Hf v d → RqL G H Hf vs ds → RqL G H Hf (v :: vs) (d :: ds)
theorem ArgsOk.rq (R : Rep G F σ H Hf ρ) : ∀ {vs : List V} {as : List Arg} {ds : List D}, ArgsOk G σ Hf vs as → dats ρ as = some ds → RqL G H Hf vs ds
  | _, _, _, .nil, e => by cases e; exact .nil
  | _, _, _, .cons (a := a) (as := as) h t, e => by
    unfold dats at e
    cases h1 : a.dat ρ with
    | none => simp [h1] at e
    | some d =>
      cases h2 : dats ρ as with
      | none => simp [h1, h2] at e
      | some ds =>
        simp [h1, h2] at e
        subst e
        exact .cons (ArgOk.rq R h h1) (ArgsOk.rq R t h2)
/-! ### the judgements -/
/-- behind an expression -/
def PostE {α : Type} (G : Gx) (F : Fr) (W : WX) (σ : L2.St) (Hf : Hp) (Q : α → Hp → Hp → PEnv → Prop) : Rs α → Prop
  | .ok a ρ' => ∀ H' Hf', Rep G F σ H' Hf' ρ' → Same Hf Hf' → Q a H' Hf' ρ'
  | .exc C f d ρ' => ∀ v dd H' Hf', Rep G F σ H' Hf' ρ' → Same Hf Hf' → Rp G Hf' v d → Hf' dd = some (.xd [(f, v)]) → W (.ref (G.cm C)) (some dd) σ H'
  | .bad => False
theorem PostE.mono {α : Type} {W : WX} {Q : α → Hp → Hp → PEnv → Prop} {r : Rs α} (h : PostE G F W σ Hf Q r) (s : Same Hf Hf') : PostE G F W σ Hf' Q r := by
  cases r with
  | ok a ρ' => exact fun H2 Hf2 R t => h H2 Hf2 R (s.trans t)
  | exc C f d ρ' => exact fun v dd H2 Hf2 R t => h v dd H2 Hf2 R (s.trans t)
  | bad => exact h
theorem PostE.imp {α : Type} {W : WX} {Q Q' : α → Hp → Hp → PEnv → Prop} {r : Rs α} (h : PostE G F W σ Hf Q r) (k : ∀ a H' Hf' ρ', r = .ok a ρ' → Rep G F σ H' Hf' ρ' → Same Hf Hf' → Q a H' Hf' ρ' → Q' a H' Hf' ρ') : PostE G F W σ Hf Q' r := by
  cases r with
  | ok a ρ' => exact fun H2 Hf2 R t => k _ _ _ _ rfl R t (h H2 Hf2 R t)
  | exc C f d ρ' => exact h
  | bad => exact h
theorem PostE.bind {α β : Type} {W : WX} {Q : β → Hp → Hp → PEnv → Prop} {r : Rs α} {k : α → PEnv → Rs β} (h : PostE G F W σ Hf Q (r.bind k)) :
    PostE G F W σ Hf (fun a _ Hf' ρ' => PostE G F W σ Hf' Q (k a ρ')) r := by
  cases r with
  | ok a ρ' => exact fun H2 Hf2 R t => PostE.mono h t
  | exc C f d ρ' => exact h
  | bad => exact h
end
/-- an operand -/
def DO (G : Gx) (X : Cx) (W : WX) (e : Expr) (o : Opd) : Prop := ∃ t, PE X e t ∧ ∀ (F : Fr) (σ : L2.St) (H Hf : Hp) (ρ : PEnv) (Q : VK), Rep G F σ H Hf ρ →
  PostE G F W σ Hf (fun a H' Hf' _ => ∀ v, ArgOk G σ Hf' v a → Q v H') (o.ev ρ) → t σ H Q
abbrev DE (G : Gx) (X : Cx) (W : WX) (e : Expr) (f : EX) : Prop := DO G X W e (.ex f)
/-- a list of operands -/
def DA (G : Gx) (X : Cx) (W : WX) (es : List Expr) (os : List Opd) : Prop := ∃ t, PA X es t ∧ ∀ (F : Fr) (σ : L2.St) (H Hf : Hp) (ρ : PEnv) (Q : List V → Hp → Prop), Rep G F σ H Hf ρ →
  PostE G F W σ Hf (fun as H' Hf' _ => ∀ vs, ArgsOk G σ Hf' vs as → Q vs H') (evs os ρ) → t σ H Q
section
variable {G : Gx} {X : Cx} {W : WX} {e : Expr} {es : List Expr} {o : Opd} {os : List Opd} {f : EX}
theorem DE.intro (h : ∃ t, PE X e t ∧ ∀ (F : Fr) (σ : L2.St) (H Hf : Hp) (ρ : PEnv) (Q : VK), Rep G F σ H Hf ρ →
    PostE G F W σ Hf (fun d H' Hf' _ => ∀ v, Rp G Hf' v d → Q v H') (f ρ) → t σ H Q) : DE G X W e f := by
  obtain ⟨t, h1, h2⟩ := h
  refine ⟨t, h1, fun F σ H Hf ρ Q R p => h2 F σ H Hf ρ Q R ?_⟩
  exact (PostE.bind p).imp fun a H' Hf' ρ' _ R' s q v r => q H' Hf' R' (Same.refl _) v r
theorem DE.elim (h : DE G X W e f) : ∃ t, PE X e t ∧ ∀ (F : Fr) (σ : L2.St) (H Hf : Hp) (ρ : PEnv) (Q : VK), Rep G F σ H Hf ρ →
    PostE G F W σ Hf (fun d H' Hf' _ => ∀ v, Rp G Hf' v d → Q v H') (f ρ) → t σ H Q := by
  obtain ⟨t, h1, h2⟩ := h
  refine ⟨t, h1, fun F σ H Hf ρ Q R p => h2 F σ H Hf ρ Q R ?_⟩
  show PostE G F W σ Hf _ ((f ρ).bind _)
  cases hf : f ρ with
  | ok d ρ' => rw [hf] at p; exact fun H' Hf' R' s v r => p H' Hf' R' s v r
  | exc C f' d ρ' => rw [hf] at p; exact p
  | bad => rw [hf] at p; exact p
theorem da_nil : DA G X W [] [] := ⟨_, pa_nil, fun F σ H Hf ρ Q R p => p H Hf R (Same.refl _) [] .nil⟩
theorem da_cons (h : DO G X W e o) (t : DA G X W es os) (hs : starEach (e :: es) X.env = (false, eval e X.env) :: starEach es X.env := by rfl) : DA G X W (e :: es) (o :: os) := by
  obtain ⟨t1, p1, q1⟩ := h
  obtain ⟨t2, p2, q2⟩ := t
  refine ⟨_, pa_cons p1 p2 hs, fun F σ H Hf ρ Q R p => ?_⟩
  refine q1 F σ H Hf ρ _ R ((PostE.bind p).imp fun a H1 Hf1 ρ1 _ R1 s1 p v r => ?_)
  refine q2 F σ H1 Hf1 ρ1 _ R1 ((PostE.bind p).imp fun as H2 Hf2 ρ2 _ R2 s2 p vs rs => ?_)
  exact p H2 Hf2 R2 (Same.refl _) (v :: vs) (.cons (r.mono s2) rs)
/-! ### names, constants -/
def eVar (i : Nat) : EX := fun ρ => match ρ[i]? with
  | some (.val d) => .ok d ρ
  | _ => .bad
theorem de_var {i : Nat} {x : Str} {pos : Pos} (hN : X.N[i]? = some x := by rfl) (hv : Vis X.env.scope x := by first | exact .inl rfl | exact .inr (.inl rfl) | exact .inr (.inr rfl)) (hd : (x == ("__debug__" : Str)) = false := by decide) (hcd : (x == ("__classdict__" : Str)) = false := by decide) : DE G X W (.Name x pos) (eVar i) := by
  refine DE.intro ⟨_, pe_var (i := i) hN hv hd hcd, fun F σ H Hf ρ Q R p => ?_⟩
  unfold eVar at p
  split at p
  · rename_i d hc
    obtain ⟨v, hv, r⟩ := R.cell i _ hc
    exact ⟨v, hv, p H Hf R (Same.refl _) v r⟩
  · exact p.elim
theorem do_sl {i : Nat} {x : Str} {pos : Pos} (hN : X.N[i]? = some x := by rfl) (hv : Vis X.env.scope x := by first | exact .inl rfl | exact .inr (.inl rfl) | exact .inr (.inr rfl)) (hd : (x == ("__debug__" : Str)) = false := by decide) (hcd : (x == ("__classdict__" : Str)) = false := by decide) : DO G X W (.Name x pos) (.sl i) := by
  refine ⟨_, pe_var (i := i) hN hv hd hcd, fun F σ H Hf ρ Q R p => ?_⟩
  unfold Opd.ev at p
  dsimp only at p
  split at p
  · rename_i ds hc
    obtain ⟨c, hc1, hc2⟩ := Option.bind_eq_some_iff.mp hc
    obtain ⟨a, m⟩ := (R.cell i c hc1).mut hc2
    exact ⟨.ref a, m.at_, p H Hf R (Same.refl _) (.ref a) m.at_⟩
  · exact p.elim
def eC (d : D) : EX := fun ρ => .ok d ρ
theorem de_of (t : TE) (v : V) (d : D) (p : PE X e (tC v)) (r : ∀ Hf, Rp G Hf v d) : DE G X W e (eC d) :=
  DE.intro ⟨_, p, fun F σ H Hf ρ Q R p => p H Hf R (Same.refl _) v (r Hf)⟩
end
end Spk
namespace Spk
open PySem PySem.Spec PyProof.Rows L2
/-! ### operators -/
def OpD (G : Gx) (X : Cx) (f : Value → Value → Sem Value) (op : D → D → Option D) : Prop := ∃ r, OpR X f r ∧ ∀ (F : Fr) (σ : L2.St) (H Hf : Hp) (ρ : PEnv) (v w : V) (x y d : D) (Q : VK), Rep G F σ H Hf ρ →
  Rq G H Hf v x → Rq G H Hf w y → op x y = some d → (∀ u H' Hf', Rep G F σ H' Hf' ρ → Same Hf Hf' → Rp G Hf' u d → Q u H') → r v w H Q
def UnD (G : Gx) (X : Cx) (f : Value → Sem Value) (op : D → Option D) : Prop := ∃ r, UnR X f r ∧ ∀ (F : Fr) (σ : L2.St) (H Hf : Hp) (ρ : PEnv) (v : V) (x d : D) (Q : VK), Rep G F σ H Hf ρ →
  Rq G H Hf v x → op x = some d → (∀ u H' Hf', Rep G F σ H' Hf' ρ → Same Hf Hf' → Rp G Hf' u d → Q u H') → r v H Q
def CallD (G : Gx) (X : Cx) (f : Value) (op : List D → Option D) : Prop := ∃ r, CallR X f r ∧ ∀ (F : Fr) (σ : L2.St) (H Hf : Hp) (ρ : PEnv) (vs : List V) (ds : List D) (d : D) (Q : VK), Rep G F σ H Hf ρ →
  RqL G H Hf vs ds → op ds = some d → (∀ u H' Hf', Rep G F σ H' Hf' ρ → Same Hf Hf' → Rp G Hf' u d → Q u H') → r vs H Q
def op2 (op : D → D → Option D) : List D → Option D
  | [x, y] => op x y
  | _ => none
def op1 (op : D → Option D) : List D → Option D
  | [x] => op x
  | _ => none
/-- the operands evaluated from the left, then the operation -/
def eOp (op : List D → Option D) (os : List Opd) : EX := fun ρ => (evs os ρ).bind fun as ρ1 => Rs.lift ((dats ρ1 as).bind op) ρ1
section
variable {G : Gx} {X : Cx} {W : WX} {e a b : Expr} {es : List Expr} {o o1 o2 : Opd} {os : List Opd} {f : EX} {pos p : Pos}
theorem lift_post {α : Type} {F : Fr} {σ : L2.St} {H Hf : Hp} {ρ : PEnv} {Q : α → Hp → Hp → PEnv → Prop} {r : Option α} (h : PostE G F W σ Hf Q (Rs.lift r ρ)) : ∃ a, r = some a ∧ ∀ H' Hf', Rep G F σ H' Hf' ρ → Same Hf Hf' → Q a H' Hf' ρ := by
  cases r with
  | none => exact h.elim
  | some a => exact ⟨a, rfl, h⟩
theorem de_op2 {f : Value → Value → Sem Value} {op : D → D → Option D} (k : OpD G X f op) (ha : DO G X W a o1) (hb : DO G X W b o2) {ex : Expr} (mk : ∀ {r : R2} {ta tb : TE}, OpR X f r → PE X a ta → PE X b tb → PE X ex (tOp r ta tb)) : DE G X W ex (eOp (op2 op) [o1, o2]) := by
  obtain ⟨r, hr, kr⟩ := k
  obtain ⟨t1, p1, q1⟩ := ha
  obtain ⟨t2, p2, q2⟩ := hb
  refine DE.intro ⟨_, mk hr p1 p2, fun F σ H Hf ρ Q R p => ?_⟩
  refine q1 F σ H Hf ρ _ R ((PostE.bind (PostE.bind p)).imp fun a1 H1 Hf1 ρ1 _ R1 s1 p v1 r1 => ?_)
  refine q2 F σ H1 Hf1 ρ1 _ R1 ((PostE.bind (PostE.bind p)).imp fun a2 H2 Hf2 ρ2 _ R2 s2 p v2 r2 => ?_)
  have p := p H2 Hf2 R2 (Same.refl _) H2 Hf2 R2 (Same.refl _)
  obtain ⟨d, hd, q⟩ := lift_post (H := H2) p
  obtain ⟨ds, h1, h2⟩ := Option.bind_eq_some_iff.mp hd
  have as : ArgsOk G σ Hf2 [v1, v2] [a1, a2] := .cons (r1.mono s2) (.cons r2 .nil)
  cases as.rq R2 h1 with
  | cons x1 t =>
    cases t with
    | cons x2 t =>
      cases t
      exact kr F σ H2 Hf2 ρ2 v1 v2 _ _ d Q R2 x1 x2 h2 fun u H' Hf' R' s' r' => q H' Hf' R' s' u r'
theorem de_bin {op : Operator} {g : D → D → Option D} (k : OpD G X (binaryOp op) g) (ha : DO G X W a o1) (hb : DO G X W b o2) : DE G X W (.BinOp a op b pos) (eOp (op2 g) [o1, o2]) := de_op2 k ha hb fun hr p1 p2 => pe_op hr p1 p2
theorem de_cmp {op : CmpOp} {g : D → D → Option D} (k : OpD G X (compareOp op) g) (ha : DO G X W a o1) (hb : DO G X W b o2) (hm : behindInMarks op b = false) : DE G X W (.Compare a [op] [b] pos) (eOp (op2 g) [o1, o2]) := de_op2 k ha hb fun hr p1 p2 => pe_cmpR hr p1 p2 hm
theorem de_un {op : UnaryOp} {g : D → Option D} (k : UnD G X (unaryOp op) g) (ha : DO G X W a o1) : DE G X W (.UnaryOp op a pos) (eOp (op1 g) [o1]) := by
  obtain ⟨r, hr, kr⟩ := k
  obtain ⟨t1, p1, q1⟩ := ha
  refine DE.intro ⟨_, pe_un hr p1, fun F σ H Hf ρ Q R p => ?_⟩
  refine q1 F σ H Hf ρ _ R ((PostE.bind (PostE.bind p)).imp fun a1 H1 Hf1 ρ1 _ R1 s1 p v1 r1 => ?_)
  have p := p H1 Hf1 R1 (Same.refl _)
  obtain ⟨d, hd, q⟩ := lift_post (H := H1) p
  obtain ⟨ds, h1, h2⟩ := Option.bind_eq_some_iff.mp hd
  have as : ArgsOk G σ Hf1 [v1] [a1] := .cons r1 .nil
  cases as.rq R1 h1 with
  | cons x1 t =>
    cases t
    exact kr F σ H1 Hf1 ρ1 v1 _ d Q R1 x1 h2 fun u H' Hf' R' s' r' => q H' Hf' R' s' u r'
theorem de_calls {g : List D → Option D} {fv : Value} (k : CallD G X fv g) (ha : DA G X W es os) {ex : Expr} (mk : ∀ {r : List V → Hp → VK → Prop} {t : TA}, CallR X fv r → PA X es t → PE X ex (tCB r t)) : DE G X W ex (eOp g os) := by
  obtain ⟨r, hr, kr⟩ := k
  obtain ⟨t1, p1, q1⟩ := ha
  refine DE.intro ⟨_, mk hr p1, fun F σ H Hf ρ Q R p => ?_⟩
  refine q1 F σ H Hf ρ _ R ((PostE.bind p).imp fun as H1 Hf1 ρ1 _ R1 s1 p vs rs => ?_)
  obtain ⟨d, hd, q⟩ := lift_post (H := H1) p
  obtain ⟨ds, h1, h2⟩ := Option.bind_eq_some_iff.mp hd
  exact kr F σ H1 Hf1 ρ1 vs ds d Q R1 (rs.rq R1 h1) h2 fun u H' Hf' R' s' r' => q H' Hf' R' s' u r'
theorem de_callB {g : List D → Option D} {id : String} {x : Str} (k : CallD G X (.builtin id) g) (hg : Gl X x) (hm : X.mg x = none) (hv : bootBuiltins x = some (.builtin id)) (ha : DA G X W (e :: es) os) (hn : x ≠ "__name__" := by decide) (hdb : (x == ("__debug__" : Str)) = false := by decide)
    (he : starEach (e :: es) X.env = (false, eval e X.env) :: starEach es X.env := by rfl) (hpl : (backTo pos (starEach es X.env)).any (·.1) = false := by rfl) : DE G X W (.Call (.Name x p) (e :: es) [] pos) (eOp g os) :=
  de_calls k ha fun hr pa => pe_callB hr hg hm hv pa hn hdb he hpl
theorem de_callTy {g : List D → Option D} {T : String} {x : Str} (k : CallD G X (.type T) g) (hg : Gl X x) (hm : X.mg x = none) (hv : bootBuiltins x = some (.type T)) (ha : DA G X W (e :: es) os) (hn : x ≠ "__name__" := by decide) (hdb : (x == ("__debug__" : Str)) = false := by decide)
    (he : starEach (e :: es) X.env = (false, eval e X.env) :: starEach es X.env := by rfl) (hpl : (backTo pos (starEach es X.env)).any (·.1) = false := by rfl) : DE G X W (.Call (.Name x p) (e :: es) [] pos) (eOp g os) :=
  de_calls k ha fun hr pa => pe_callTy hr hg hm hv pa hn hdb he hpl
end
end Spk

namespace Spk
open PySem PySem.Spec PyProof.Rows L2
/-! ### data as the library compares and shows it -/
mutual
def D.py : D → PyData
  | .non => .none
  | .bl b => .bool b
  | .int i => .int i
  | .str x => .str x
  | .lst ds => .list (pys ds)
  | .tup ds => .tuple (pys ds)
  | .ins _ _ _ => .none
  | .scr _ => .none
def pys : List D → List PyData
  | [] => []
  | d :: ds => d.py :: pys ds
end
mutual
/-- no instance within -/
def D.pure : D → Bool
  | .lst ds => pures ds
  | .tup ds => pures ds
  | .ins _ _ _ => false
  | .scr _ => false
  | _ => true
def pures : List D → Bool
  | [] => true
  | d :: ds => d.pure && pures ds
end
theorem pys_map : ∀ ds : List D, pys ds = ds.map D.py
  | [] => rfl
  | d :: ds => congrArg (d.py :: ·) (pys_map ds)
theorem pures_all : ∀ ds : List D, pures ds = ds.all D.pure
  | [] => rfl
  | d :: ds => congrArg (d.pure && ·) (pures_all ds)
section
variable {G : Gx} {H : Hp}
mutual
theorem Rp.dp : ∀ (d : D) {v : V}, Rp G H v d → d.pure = true → Dp G.K H v d.py
  | .non, _, h, _ => by cases h; exact .non
  | .bl b, _, h, _ => by cases h; exact .bl b
  | .int i, _, h, _ => by cases h; exact .int i
  | .str x, _, h, _ => by cases h; exact .str x
  | .lst ds, _, h, c => by cases h with | lst q r => exact .lst (SqL.hp q) (RpL.dp ds r c)
  | .tup ds, _, h, c => by cases h with | tup q r => exact .tup q (RpL.dp ds r c)
  | .ins _ _ _, _, _, c => by cases c
  | .scr _, _, _, c => by cases c
theorem RpL.dp : ∀ (ds : List D) {vs : List V}, RpL G H vs ds → pures ds = true → DpAll G.K H vs (pys ds)
  | [], _, h, _ => by cases h; exact .nil
  | d :: ds, _, h, c => by
    have c := Bool.and_eq_true_iff.mp c
    cases h with | cons a b => exact .cons (Rp.dp d a c.1) (RpL.dp ds b c.2)
end
mutual
theorem Rp.can : ∀ (d : D) {v : V}, Rp G H v d → d.pure = true → d.py.canLay0 = true
  | .non, _, h, _ => by simp only [D.py, PyData.canLay0]
  | .bl b, _, h, _ => by simp only [D.py, PyData.canLay0]
  | .int i, _, h, _ => by simp only [D.py, PyData.canLay0]
  | .str x, _, h, _ => by cases h with | str h => exact h
  | .lst ds, _, h, c => by cases h with | lst q r => simp only [D.py, PyData.canLay0]; exact RpL.can ds r c
  | .tup ds, _, h, c => by cases h with | tup q r => simp only [D.py, PyData.canLay0]; exact RpL.can ds r c
  | .ins _ _ _, _, _, c => by cases c
  | .scr _, _, _, c => by cases c
theorem RpL.can : ∀ (ds : List D) {vs : List V}, RpL G H vs ds → pures ds = true → PyData.canLayAll0 (pys ds) = true
  | [], _, h, _ => by simp only [pys, PyData.canLayAll0]
  | d :: ds, _, h, c => by
    have c := Bool.and_eq_true_iff.mp c
    cases h with | cons a b => simp only [pys, PyData.canLayAll0, Rp.can d a c.1, RpL.can ds b c.2, Bool.and_self]
end
end
/-- data that may be compared: no instance within, not too deep -/
def D.fit (d : D) : Bool := d.pure && decide (d.py.depth ≤ 64)
theorem Rp.shp {G : Gx} {H : Hp} {v : V} {d : D} (r : Rp G H v d) (h : d.fit = true) : Dp G.K H v d.py ∧ SeqAt.shaped d.py = true := by
  have h := Bool.and_eq_true_iff.mp h
  exact ⟨Rp.dp d r h.1, Bool.and_eq_true_iff.mpr ⟨Rp.can d r h.1, h.2⟩⟩
def eqv (x y : D) : Bool := PyData.eqv x.py y.py
/-! ### operators -/
theorem opr_or {X : Cx} {f : Value → Value → Sem Value} {r1 r2 : R2} (h1 : OpR X f r1) (h2 : OpR X f r2) : OpR X f (fun x y H Q => r1 x y H Q ∨ r2 x y H Q) := by
  intro pins s σ H x y v u Q I rx ry h
  rcases h with h | h
  · exact h1 pins s σ H x y v u Q I rx ry h
  · exact h2 pins s σ H x y v u Q I rx ry h
theorem callr_or {X : Cx} {f : Value} {r1 r2 : List V → Hp → VK → Prop} (h1 : CallR X f r1) (h2 : CallR X f r2) : CallR X f (fun xs H Q => r1 xs H Q ∨ r2 xs H Q) := by
  intro pins s σ H xs us Q I r h
  rcases h with h | h
  · exact h1 pins s σ H xs us Q I r h
  · exact h2 pins s σ H xs us Q I r h

section
variable {G : Gx} {X : Cx}
def addD : D → D → Option D
  | .int i, .int j => some (.int (i + j))
  | .lst xs, .lst ys => if xs.length + ys.length ≤ sizeLine then some (.lst (xs ++ ys)) else none
  | .tup xs, .tup ys => if xs.length + ys.length ≤ sizeLine then some (.tup (xs ++ ys)) else none
  | .str x, .str y => if x.length + y.length ≤ sizeLine ∧ PyData.canLay0 (.str (x ++ y)) = true then some (.str (x ++ y)) else none
  | _, _ => none
theorem ite_some' {α : Type} {c : Prop} [Decidable c] {x d : α} (h : (if c then some x else none) = some d) : c ∧ x = d := by
  by_cases e : c
  · rw [if_pos e] at h; exact ⟨e, Option.some.inj h⟩
  · rw [if_neg e] at h; cases h
theorem rp_i {H : Hp} {v : V} {i : Int} (h : Rp G H v (.int i)) : v = .int i := by cases h; rfl
theorem rp_b {H : Hp} {v : V} {b : Bool} (h : Rp G H v (.bl b)) : v = .bl b := by cases h; rfl
theorem rp_s {H : Hp} {v : V} {x : Str} (h : Rp G H v (.str x)) : v = .str x ∧ PyData.canLay0 (.str x) = true := by cases h with | str h => exact ⟨rfl, h⟩
theorem rp_n {H : Hp} {v : V} (h : Rp G H v .non) : v = .non := by cases h; rfl
theorem rp_t {H : Hp} {v : V} {ds : List D} (h : Rp G H v (.tup ds)) : ∃ a vs, v = .ref a ∧ SqT G.K H a vs ∧ RpL G H vs ds := by cases h with | tup q r => exact ⟨_, _, rfl, q, r⟩
theorem Rq.i {H Hf : Hp} {v : V} {i : Int} (h : Rq G H Hf v (.int i)) : v = .int i := rp_i (h.nl fun _ z => nomatch z)
theorem Rq.b {H Hf : Hp} {v : V} {b : Bool} (h : Rq G H Hf v (.bl b)) : v = .bl b := rp_b (h.nl fun _ z => nomatch z)
theorem Rq.n {H Hf : Hp} {v : V} (h : Rq G H Hf v .non) : v = .non := rp_n (h.nl fun _ z => nomatch z)
theorem Rq.s {H Hf : Hp} {v : V} {x : Str} (h : Rq G H Hf v (.str x)) : v = .str x ∧ PyData.canLay0 (.str x) = true := rp_s (h.nl fun _ z => nomatch z)
theorem Rq.t {H Hf : Hp} {v : V} {ds : List D} (h : Rq G H Hf v (.tup ds)) (s : Same Hf H) : ∃ a vs, v = .ref a ∧ SqT G.K H a vs ∧ RpL G Hf vs ds := by
  obtain ⟨a, vs, e, q, r⟩ := rp_t (h.nl fun _ z => nomatch z)
  exact ⟨a, vs, e, sameT s q, r⟩
theorem Rep.laid {F : Fr} {σ : L2.St} {H Hf : Hp} {ρ : PEnv} (R : Rep G F σ H Hf ρ) {q : Addr} (nq : H q = none) {vs : List V} {ds : List D} (r : RpL G Hf vs ds) :
    Rep G F σ (upd H q (.lst vs)) (upd Hf q (.lst vs)) ρ ∧ Same Hf (upd Hf q (.lst vs)) ∧ Rp G (upd Hf q (.lst vs)) (.ref q) (.lst ds) :=
  ⟨R.new nq _, Same.new (R.nf nq), .lst upd_same (r.mono (Same.new (R.nf nq)))⟩
theorem Rep.laidT {F : Fr} {σ : L2.St} {H Hf : Hp} {ρ : PEnv} (R : Rep G F σ H Hf ρ) {q : Addr} (nq : H q = none) {vs : List V} {ds : List D} (r : RpL G Hf vs ds) :
    Rep G F σ (upd H q (.tup vs)) (upd Hf q (.tup vs)) ρ ∧ Same Hf (upd Hf q (.tup vs)) ∧ Rp G (upd Hf q (.tup vs)) (.ref q) (.tup ds) :=
  ⟨R.new nq _, Same.new (R.nf nq), .tup (SqT.hp upd_same) (r.mono (Same.new (R.nf nq)))⟩
theorem od_add (hK : X.K = G.K := by rfl) : OpD G X (binaryOp .Add) addD := by
  refine ⟨_, opr_or op_add (opr_or op_cat (opr_or (hK ▸ op_catA) op_add_str)), fun F σ H Hf ρ v w x y d Q R rx ry e q => ?_⟩
  cases x <;> cases y <;> simp only [addD] at e <;> try cases e
  · obtain rfl := rx.i
    obtain rfl := ry.i
    exact .inl ⟨_, _, rfl, rfl, q _ H Hf R (Same.refl _) (.int _)⟩
  · obtain ⟨c, rfl⟩ := ite_some' e
    obtain ⟨rfl, _⟩ := rx.s
    obtain ⟨rfl, _⟩ := ry.s
    exact .inr (.inr (.inr ⟨_, _, rfl, rfl, c.1, q _ H Hf R (Same.refl _) (.str c.2)⟩))
  · obtain ⟨c, rfl⟩ := ite_some' e
    obtain ⟨a, vs, rfl, ha, ra⟩ := rx.lst R.sub
    obtain ⟨b, ws, rfl, hb, rb⟩ := ry.lst R.sub
    refine .inr (.inl ⟨_, _, _, _, rfl, rfl, ha, hb, by rw [ra.len, rb.len]; exact c, fun p np => ?_⟩)
    obtain ⟨R', s', r'⟩ := R.laid np (ra.app rb)
    exact q _ _ _ R' s' r'
  · obtain ⟨c, rfl⟩ := ite_some' e
    obtain ⟨a, vs, rfl, ha, ra⟩ := rx.t R.sub
    obtain ⟨b, ws, rfl, hb, rb⟩ := ry.t R.sub
    obtain ⟨a0, vs0, ea, qa, _⟩ := rp_t (rx.nl fun _ z => nomatch z)
    cases ea
    obtain ⟨b0, ws0, eb, qb, _⟩ := rp_t (ry.nl fun _ z => nomatch z)
    cases eb
    refine .inr (.inr (.inl ⟨_, _, _, _, rfl, rfl, ha, hb, by rw [ra.len, rb.len]; exact c, fun z => ?_, fun _ z => ?_, fun _ _ p np => ?_⟩))
    · subst z
      cases ra
      exact q _ H Hf R (Same.refl _) (ry.nl fun _ z => nomatch z)
    · subst z
      cases rb
      rw [List.append_nil] at q
      exact q _ H Hf R (Same.refl _) (rx.nl fun _ z => nomatch z)
    · obtain ⟨R', s', r'⟩ := R.laidT np (ra.app rb)
      exact q _ _ _ R' s' r'
def intOp (g : Int → Int → Option Int) : D → D → Option D
  | .int i, .int j => (g i j).map D.int
  | _, _ => none
theorem od_int {f : Value → Value → Sem Value} {C : Int → Int → Prop} {k : Int → Int → Int} {g : Int → Int → Option Int} (h : OpR X f (rI C fun i j => .int (k i j))) (hg : ∀ i j n, g i j = some n → C i j ∧ k i j = n) : OpD G X f (intOp g) := by
  refine ⟨_, h, fun F σ H Hf ρ v w x y d Q R rx ry e q => ?_⟩
  cases x <;> cases y <;> simp only [intOp] at e <;> try cases e
  rename_i i j
  obtain ⟨n, h1, rfl⟩ := Option.map_eq_some_iff.mp e
  obtain ⟨c, rfl⟩ := hg _ _ _ h1
  obtain rfl := rx.i
  obtain rfl := ry.i
  exact ⟨_, _, rfl, rfl, c, q _ H Hf R (Same.refl _) (.int _)⟩
theorem od_int0 {f : Value → Value → Sem Value} {k : Int → Int → Int} (h : OpR X f (rI0 fun i j => .int (k i j))) : OpD G X f (intOp fun i j => some (k i j)) := by
  refine ⟨_, h, fun F σ H Hf ρ v w x y d Q R rx ry e q => ?_⟩
  cases x <;> cases y <;> simp only [intOp, Option.map_some] at e <;> cases e
  obtain rfl := rx.i
  obtain rfl := ry.i
  exact ⟨_, _, rfl, rfl, q _ H Hf R (Same.refl _) (.int _)⟩
def subD : D → D → Option D := intOp fun i j => some (i - j)
theorem od_sub : OpD G X (binaryOp .Sub) subD := od_int0 op_sub
def mulG (i j : Int) : Option Int := if i.natAbs.log2 + j.natAbs.log2 < 1000000 then some (i * j) else none
def mulD : D → D → Option D := intOp mulG
theorem od_mul : OpD G X (binaryOp .Mult) mulD := od_int op_mulW fun i j n h => by unfold mulG at h; obtain ⟨c, e⟩ := ite_some' h; exact ⟨c, e⟩
def divG (i j : Int) : Option Int := if 0 < j ∧ j.natAbs.log2 < 9000 then some (i / j) else none
def divD : D → D → Option D := intOp divG
theorem od_div : OpD G X (binaryOp .FloorDiv) divD := od_int op_fdivW fun i j n h => by unfold divG at h; obtain ⟨c, e⟩ := ite_some' h; exact ⟨c, e⟩
def modG (i j : Int) : Option Int := if 0 < j then some (i % j) else none
def modD : D → D → Option D := intOp modG
theorem od_mod : OpD G X (binaryOp .Mod) modD := od_int op_mod fun i j n h => by unfold modG at h; obtain ⟨c, e⟩ := ite_some' h; exact ⟨c, e⟩
def powG (i j : Int) : Option Int := if 0 ≤ j ∧ j ≤ 1000000 ∧ i.natAbs < 2 ^ 64 then some (i ^ j.toNat) else none
def powD : D → D → Option D := intOp powG
theorem od_pow : OpD G X (binaryOp .Pow) powD := od_int op_pow fun i j n h => by unfold powG at h; obtain ⟨c, e⟩ := ite_some' h; exact ⟨c, e⟩
def intCmp (g : Int → Int → Bool) : D → D → Option D
  | .int i, .int j => some (.bl (g i j))
  | _, _ => none
theorem od_icmp {f : Value → Value → Sem Value} {k : Int → Int → Bool} (h : OpR X f (rI0 fun i j => .bl (k i j))) : OpD G X f (intCmp k) := by
  refine ⟨_, h, fun F σ H Hf ρ v w x y d Q R rx ry e q => ?_⟩
  cases x <;> cases y <;> simp only [intCmp] at e <;> cases e
  obtain rfl := rx.i
  obtain rfl := ry.i
  exact ⟨_, _, rfl, rfl, q _ H Hf R (Same.refl _) (.bl _)⟩
def ltD : D → D → Option D := intCmp fun i j => decide (i < j)
def leD : D → D → Option D := intCmp fun i j => decide (i ≤ j)
def gtD : D → D → Option D := intCmp fun i j => decide (j < i)
def geD : D → D → Option D := intCmp fun i j => decide (j ≤ i)
theorem od_lt : OpD G X (compareOp .Lt) ltD := od_icmp op_lt
theorem od_le : OpD G X (compareOp .LtE) leD := od_icmp op_le
theorem od_gt : OpD G X (compareOp .Gt) gtD := od_icmp op_gt
theorem od_ge : OpD G X (compareOp .GtE) geD := od_icmp op_ge
def eqD (x y : D) : Option D := if x.fit = true ∧ y.fit = true then some (.bl (eqv x y)) else none
def neD (x y : D) : Option D := if x.fit = true ∧ y.fit = true then some (.bl (!eqv x y)) else none
theorem od_eq (hu : X.A.units + 64 < cLine) (hK : X.K = G.K := by rfl) : OpD G X (compareOp .Eq) eqD := by
  refine ⟨_, (hK ▸ op_eqD hu : OpR X (compareOp .Eq) (rEqD G.K)), fun F σ H Hf ρ v w x y d Q R rx ry e q => ?_⟩
  obtain ⟨⟨c1, c2⟩, rfl⟩ := ite_some' e
  obtain ⟨a1, a2⟩ := (rx.rp R.sub).shp c1
  obtain ⟨b1, b2⟩ := (ry.rp R.sub).shp c2
  exact ⟨_, _, a1, b1, a2, b2, q _ H Hf R (Same.refl _) (.bl _)⟩
theorem od_ne (hu : X.A.units + 64 < cLine) (hK : X.K = G.K := by rfl) : OpD G X (compareOp .NotEq) neD := by
  refine ⟨_, (hK ▸ op_neD hu : OpR X (compareOp .NotEq) (rNeD G.K)), fun F σ H Hf ρ v w x y d Q R rx ry e q => ?_⟩
  obtain ⟨⟨c1, c2⟩, rfl⟩ := ite_some' e
  obtain ⟨a1, a2⟩ := (rx.rp R.sub).shp c1
  obtain ⟨b1, b2⟩ := (ry.rp R.sub).shp c2
  exact ⟨_, _, a1, b1, a2, b2, q _ H Hf R (Same.refl _) (.bl _)⟩
/-- x in a list or a tuple of data -/
def inG (n : Bool) (x y : D) : Option D := match y with
  | .lst ds => if x.fit = true ∧ (D.lst ds).fit = true then some (.bl (n != ds.any fun z => eqv z x)) else none
  | .tup ds => if x.fit = true ∧ (D.tup ds).fit = true then some (.bl (n != ds.any fun z => eqv z x)) else none
  | _ => none
abbrev inD := inG false
abbrev notInD := inG true
theorem any_pys (ds : List D) (x : D) : (pys ds).any (fun z => PyData.eqv z x.py) = ds.any fun z => eqv z x := by
  rw [pys_map, List.any_map]; rfl
def rInT (K : PySem.W.Frag) : R2 := fun x y H Q => ∃ d ds, Dp K H x d ∧ Dp K H y (.tuple ds) ∧ SeqAt.shaped d = true ∧ PyData.canLayAll0 ds = true ∧ Q (.bl (ds.any fun z => PyData.eqv z d)) H
theorem op_inT (hu : X.A.units + 65 < cLine) : OpR X (compareOp .In) (rInT X.K) := by
  intro pins s σ H x y v u Q I rx ry h
  obtain ⟨d, ds, hd, he, sd, se, q⟩ := h
  obtain ⟨as, r1⟩ := Dp.reads I d x v hd rx
  obtain ⟨bs, r2⟩ := Dp.reads I (.tuple ds) y u he ry
  exact SeqAt.in_tuple_reads r2 r1 se (SeqAt.canLay_of_shaped sd) (room_in_shaped sd hu) ⟨.bl _, H, I, rfl, q⟩
theorem od_in (hu : X.A.units + 65 < cLine) (hK : X.K = G.K := by rfl) : OpD G X (compareOp .In) inD := by
  refine ⟨_, opr_or (hK ▸ op_inD hu : OpR X (compareOp .In) (rInD G.K)) (hK ▸ op_inT hu : OpR X (compareOp .In) (rInT G.K)), fun F σ H Hf ρ v w x y d Q R rx ry e q => ?_⟩
  cases y <;> simp only [inD, inG] at e <;> try cases e
  · obtain ⟨⟨c1, c2⟩, rfl⟩ := ite_some' e
    obtain ⟨a1, a2⟩ := (rx.rp R.sub).shp c1
    obtain ⟨b1, b2⟩ := (ry.rp R.sub).shp c2
    refine .inl ⟨_, _, a1, b1, a2, b2, ?_⟩
    have := q _ H Hf R (Same.refl _) (.bl _)
    rw [← any_pys] at this
    simpa using this
  · obtain ⟨⟨c1, c2⟩, rfl⟩ := ite_some' e
    obtain ⟨a1, a2⟩ := (rx.rp R.sub).shp c1
    obtain ⟨b1, b2⟩ := (ry.rp R.sub).shp c2
    have c3 := SeqAt.canLay_of_shaped b2
    refine .inr ⟨_, _, a1, b1, a2, (by simpa only [D.py, PyData.canLay0] using c3), ?_⟩
    have := q _ H Hf R (Same.refl _) (.bl _)
    rw [← any_pys] at this
    simpa using this
theorem od_notIn (hu : X.A.units + 65 < cLine) (hK : X.K = G.K := by rfl) : OpD G X (compareOp .NotIn) notInD := by
  refine ⟨_, opr_or (hK ▸ op_notInD hu : OpR X (compareOp .NotIn) (rNotInD G.K)) (hK ▸ op_notInT hu : OpR X (compareOp .NotIn) (rNotInT G.K)), fun F σ H Hf ρ v w x y d Q R rx ry e q => ?_⟩
  cases y <;> simp only [notInD, inG] at e <;> try cases e
  · obtain ⟨⟨c1, c2⟩, rfl⟩ := ite_some' e
    obtain ⟨a1, a2⟩ := (rx.rp R.sub).shp c1
    obtain ⟨b1, b2⟩ := (ry.rp R.sub).shp c2
    refine .inl ⟨_, _, a1, b1, a2, b2, ?_⟩
    have := q _ H Hf R (Same.refl _) (.bl _)
    rw [← any_pys] at this
    simpa using this
  · obtain ⟨⟨c1, c2⟩, rfl⟩ := ite_some' e
    obtain ⟨a1, a2⟩ := (rx.rp R.sub).shp c1
    obtain ⟨b1, b2⟩ := (ry.rp R.sub).shp c2
    have c3 := SeqAt.canLay_of_shaped b2
    refine .inr ⟨_, _, a1, b1, a2, (by simpa only [D.py, PyData.canLay0] using c3), ?_⟩
    have := q _ H Hf R (Same.refl _) (.bl _)
    rw [← any_pys] at this
    simpa using this
/-- x is None -/
def isNonD (n : Bool) (x y : D) : Option D := match x, y with
  | .non, .non => some (.bl (!n))
  | _, .non => some (.bl n)
  | _, _ => none
theorem od_isN : OpD G X (compareOp .Is) (isNonD false) := by
  refine ⟨_, op_isN, fun F σ H Hf ρ v w x y d Q R rx ry e q => ?_⟩
  cases y <;> cases x <;> simp only [isNonD] at e <;> cases e <;> obtain rfl := ry.n <;> refine ⟨rfl, ?_⟩
  · obtain rfl := rx.n
    exact q _ H Hf R (Same.refl _) (.bl _)
  all_goals
    rw [decide_eq_false (by intro z; subst z; rcases rx with rx | ⟨_, _, _, z, _⟩ <;> first | cases rx | cases z)]
    exact q _ H Hf R (Same.refl _) (.bl _)
theorem od_notN : OpD G X (compareOp .IsNot) (isNonD true) := by
  refine ⟨_, op_notN, fun F σ H Hf ρ v w x y d Q R rx ry e q => ?_⟩
  cases y <;> cases x <;> simp only [isNonD] at e <;> cases e <;> obtain rfl := ry.n <;> refine ⟨rfl, ?_⟩
  · obtain rfl := rx.n
    exact q _ H Hf R (Same.refl _) (.bl _)
  all_goals
    rw [decide_eq_false (by intro z; subst z; rcases rx with rx | ⟨_, _, _, z, _⟩ <;> first | cases rx | cases z)]
    exact q _ H Hf R (Same.refl _) (.bl _)
def negD : D → Option D
  | .int i => some (.int (-i))
  | _ => none
theorem ud_neg : UnD G X (unaryOp .USub) negD := by
  refine ⟨_, un_neg, fun F σ H Hf ρ v x d Q R rx e q => ?_⟩
  cases x <;> simp only [negD] at e <;> cases e
  obtain rfl := rx.i
  exact ⟨_, rfl, q _ H Hf R (Same.refl _) (.int _)⟩
/-! ### truth -/
def truth : D → Option Bool
  | .non => some false
  | .bl b => some b
  | .int i => some (i != 0)
  | .str x => if x.length ≤ sizeLine then some ((x.length : Int) != 0) else none
  | .lst ds => some (!ds.isEmpty)
  | .tup ds => some (!ds.isEmpty)
  | _ => none
theorem empty_rp {H : Hp} {vs : List V} {ds : List D} (r : RpL G H vs ds) : (!vs.isEmpty) = !ds.isEmpty := by cases r <;> rfl
theorem tru_of (hK : X.K = G.K) {H Hf : Hp} {v : V} {d : D} {b : Bool} (s : Same Hf H) (r : Rq G H Hf v d) (e : truth d = some b) : TruV X.K v H b := by
  rw [hK]
  cases d <;> simp only [truth] at e <;> try cases e
  · obtain rfl := r.n; rfl
  · obtain rfl := r.b; rfl
  · obtain rfl := r.i; rfl
  · obtain ⟨c, rfl⟩ := ite_some' e
    obtain ⟨rfl, _⟩ := r.s
    exact ⟨c, rfl⟩
  · obtain ⟨p, vs, rfl, hp, rl⟩ := r.lst s
    exact .inl ⟨vs, SqL.hp hp, (empty_rp rl).symm⟩
  · obtain ⟨p, vs, rfl, hp, rl⟩ := r.t s
    exact .inr (.inl ⟨vs, hp, (empty_rp rl).symm⟩)
abbrev BX := PEnv → Rs Bool
def DT (G : Gx) (X : Cx) (W : WX) (e : Expr) (f : BX) : Prop := ∃ t, PT X e t ∧ ∀ (F : Fr) (σ : L2.St) (H Hf : Hp) (ρ : PEnv) (Q : Bool → Hp → Prop), Rep G F σ H Hf ρ →
  PostE G F W σ Hf (fun b H' _ _ => Q b H') (f ρ) → t σ H Q
def DW (G : Gx) (X : Cx) (W : WX) (e : Expr) (f : BX) : Prop := ∃ t, PW X e t ∧ ∀ (F : Fr) (σ : L2.St) (H Hf : Hp) (ρ : PEnv) (Q : Bool → Hp → Prop), Rep G F σ H Hf ρ →
  PostE G F W σ Hf (fun b H' _ _ => Q b H') (f ρ) → t σ H Q
theorem DW.pt {W : WX} {e : Expr} {f : BX} (h : DW G X W e f) : DT G X W e f := by
  obtain ⟨t, p, q⟩ := h
  exact ⟨t, p.pt, q⟩
def bTru (o : Opd) : BX := fun ρ => (o.ev ρ).bind fun a ρ1 => Rs.lift ((a.dat ρ1).bind truth) ρ1
section
variable {W : WX} {e a b c : Expr} {o : Opd} {f fa fb fc : EX} {g ga gb : BX} {pos : Pos} {rest : List Expr}
theorem dt_tru (ha : DO G X W a o) (hK : X.K = G.K := by rfl) (he : ∀ whole, isTrue a X.env whole = (do let v ← whole; standAt a.pos; holding [v] (truthy v)) := by intro _; rfl) : DT G X W a (bTru o) := by
  obtain ⟨t, p1, q1⟩ := ha
  refine ⟨_, pt_truth p1 he, fun F σ H Hf ρ Q R p => ?_⟩
  refine q1 F σ H Hf ρ _ R ((PostE.bind p).imp fun a1 H1 Hf1 ρ1 _ R1 s1 p v r => ?_)
  obtain ⟨b, hb, q⟩ := lift_post (H := H1) p
  obtain ⟨d, h1, h2⟩ := Option.bind_eq_some_iff.mp hb
  exact ⟨b, tru_of hK R1.sub (ArgOk.rq R1 r h1) h2, q H1 Hf1 R1 (Same.refl _)⟩
def bBl (f : EX) : BX := fun ρ => (f ρ).bind fun d ρ1 => match d with
  | .bl b => .ok b ρ1
  | _ => .bad
/-- what a comparison is, as a test -/
theorem dt_of {mk : TE → TT} (hm : ∀ {t : TE} {σ : L2.St} {H : Hp} {Q : Bool → Hp → Prop}, t σ H (fun x H' => ∃ k, x = .bl k ∧ Q k H') → mk t σ H Q) (h : ∃ t, PT X a (mk t) ∧ ∀ (F : Fr) (σ : L2.St) (H Hf : Hp) (ρ : PEnv) (Q : VK), Rep G F σ H Hf ρ →
    PostE G F W σ Hf (fun d H' Hf' _ => ∀ v, Rp G Hf' v d → Q v H') (f ρ) → t σ H Q) : DT G X W a (bBl f) := by
  obtain ⟨t, p1, q1⟩ := h
  refine ⟨_, p1, fun F σ H Hf ρ Q R p => hm (q1 F σ H Hf ρ _ R ((PostE.bind p).imp fun d H1 Hf1 ρ1 _ R1 s1 p v r => ?_))⟩
  cases d with
  | bl k =>
    obtain rfl := rp_b r
    exact ⟨k, rfl, p H1 Hf1 R1 (Same.refl _)⟩
  | _ => exact p.elim
theorem dt_cmp {op : CmpOp} {g : D → D → Option D} {o1 o2 : Opd} (k : OpD G X (compareOp op) g) (ha : DO G X W a o1) (hb : DO G X W b o2) (hm : behindInMarks op b = false) : DT G X W (.Compare a [op] [b] pos) (bBl (eOp (op2 g) [o1, o2])) := by
  obtain ⟨r, hr, kr⟩ := k
  obtain ⟨t1, p1, q1⟩ := ha
  obtain ⟨t2, p2, q2⟩ := hb
  refine dt_of (mk := tTest) (fun h => h) ⟨tOp r t1 t2, pt_cmpR hr p1 p2 hm, fun F σ H Hf ρ Q R p => ?_⟩
  refine q1 F σ H Hf ρ _ R ((PostE.bind (PostE.bind p)).imp fun a1 H1 Hf1 ρ1 _ R1 s1 p v1 r1 => ?_)
  refine q2 F σ H1 Hf1 ρ1 _ R1 ((PostE.bind (PostE.bind p)).imp fun a2 H2 Hf2 ρ2 _ R2 s2 p v2 r2 => ?_)
  have p := p H2 Hf2 R2 (Same.refl _) H2 Hf2 R2 (Same.refl _)
  obtain ⟨d, hd, q⟩ := lift_post (H := H2) p
  obtain ⟨ds, h1, h2⟩ := Option.bind_eq_some_iff.mp hd
  have as : ArgsOk G σ Hf2 [v1, v2] [a1, a2] := .cons (r1.mono s2) (.cons r2 .nil)
  cases as.rq R2 h1 with
  | cons x1 t =>
    cases t with
    | cons x2 t =>
      cases t
      exact kr F σ H2 Hf2 ρ2 v1 v2 _ _ d Q R2 x1 x2 h2 fun u H' Hf' R' s' r' => q H' Hf' R' s' u r'
/-- a < b < c -/
def eChain (g g' : D → D → Option D) (fa fb fc : EX) : EX := fun ρ => (fa ρ).bind fun x ρ1 => (fb ρ1).bind fun y ρ2 => (Rs.lift (g x y) ρ2).bind fun z ρ3 => match z with
  | .bl true => (fc ρ3).bind fun w ρ4 => Rs.lift (g' y w) ρ4
  | .bl false => .ok (.bl false) ρ3
  | _ => .bad
theorem chain_run {F : Fr} {σ : L2.St} {H Hf : Hp} {ρ : PEnv} {Q : VK} {r r' : R2} {ta tb tc : TE} {op op' : CmpOp} {g g' : D → D → Option D} (R : Rep G F σ H Hf ρ)
    (k1 : ∀ (F : Fr) (σ : L2.St) (H Hf : Hp) (ρ : PEnv) (v w : V) (x y d : D) (Q : VK), Rep G F σ H Hf ρ → Rq G H Hf v x → Rq G H Hf w y → g x y = some d → (∀ u H' Hf', Rep G F σ H' Hf' ρ → Same Hf Hf' → Rp G Hf' u d → Q u H') → r v w H Q)
    (k2 : ∀ (F : Fr) (σ : L2.St) (H Hf : Hp) (ρ : PEnv) (v w : V) (x y d : D) (Q : VK), Rep G F σ H Hf ρ → Rq G H Hf v x → Rq G H Hf w y → g' x y = some d → (∀ u H' Hf', Rep G F σ H' Hf' ρ → Same Hf Hf' → Rp G Hf' u d → Q u H') → r' v w H Q)
    (q1 : ∀ (F : Fr) (σ : L2.St) (H Hf : Hp) (ρ : PEnv) (Q : VK), Rep G F σ H Hf ρ → PostE G F W σ Hf (fun d H' Hf' _ => ∀ v, Rp G Hf' v d → Q v H') (fa ρ) → ta σ H Q)
    (q2 : ∀ (F : Fr) (σ : L2.St) (H Hf : Hp) (ρ : PEnv) (Q : VK), Rep G F σ H Hf ρ → PostE G F W σ Hf (fun d H' Hf' _ => ∀ v, Rp G Hf' v d → Q v H') (fb ρ) → tb σ H Q)
    (q3 : ∀ (F : Fr) (σ : L2.St) (H Hf : Hp) (ρ : PEnv) (Q : VK), Rep G F σ H Hf ρ → PostE G F W σ Hf (fun d H' Hf' _ => ∀ v, Rp G Hf' v d → Q v H') (fc ρ) → tc σ H Q)
    (p : PostE G F W σ Hf (fun d H' Hf' _ => ∀ v, Rp G Hf' v d → Q v H') (eChain g g' fa fb fc ρ)) : tChain r r' ta tb tc σ H Q := by
  refine q1 F σ H Hf ρ _ R ((PostE.bind p).imp fun x H1 Hf1 ρ1 _ R1 s1 p v1 r1 => ?_)
  refine q2 F σ H1 Hf1 ρ1 _ R1 ((PostE.bind p).imp fun y H2 Hf2 ρ2 _ R2 s2 p v2 r2 => ?_)
  have p := PostE.bind p
  obtain ⟨z, hz, q⟩ := lift_post (H := H2) p
  refine k1 F σ H2 Hf2 ρ2 v1 v2 x y z _ R2 (.inl (r1.mono s2)) (.inl r2) hz fun u H3 Hf3 R3 s3 r3 => ?_
  have q := q H3 Hf3 R3 s3
  cases z with
  | bl kb =>
    obtain rfl := rp_b r3
    refine ⟨kb, rfl, ?_⟩
    cases kb with
    | false => exact q H3 Hf3 R3 (Same.refl _) _ (.bl _)
    | true =>
      rw [if_pos rfl]
      refine q3 F σ H3 Hf3 ρ2 _ R3 ((PostE.bind q).imp fun w H4 Hf4 ρ4 _ R4 s4 p v4 r4 => ?_)
      obtain ⟨z, hz, q⟩ := lift_post (H := H4) p
      exact k2 F σ H4 Hf4 ρ4 v2 v4 y w z _ R4 (.inl (r2.mono (s3.trans s4))) (.inl r4) hz fun u H5 Hf5 R5 s5 r5 => q H5 Hf5 R5 s5 u r5
  | _ => exact q.elim
theorem de_chain {op op' : CmpOp} {g g' : D → D → Option D} (k : OpD G X (compareOp op) g) (k' : OpD G X (compareOp op') g') (ha : DE G X W a fa) (hb : DE G X W b fb) (hc : DE G X W c fc) (hm : lastMarks [op, op'] [b, c] = false := by with_unfolding_all rfl) : DE G X W (.Compare a [op, op'] [b, c] pos) (eChain g g' fa fb fc) := by
  obtain ⟨r, hr, kr⟩ := k
  obtain ⟨r', hr', kr'⟩ := k'
  obtain ⟨t1, p1, q1⟩ := DE.elim ha
  obtain ⟨t2, p2, q2⟩ := DE.elim hb
  obtain ⟨t3, p3, q3⟩ := DE.elim hc
  exact DE.intro ⟨_, pe_chain hr hr' p1 p2 p3 hm, fun F σ H Hf ρ Q R p => chain_run (op := op) (op' := op') R kr kr' q1 q2 q3 p⟩
theorem dt_chain {op op' : CmpOp} {g g' : D → D → Option D} (k : OpD G X (compareOp op) g) (k' : OpD G X (compareOp op') g') (ha : DE G X W a fa) (hb : DE G X W b fb) (hc : DE G X W c fc) (hm : lastMarks [op, op'] [b, c] = false := by with_unfolding_all rfl) : DT G X W (.Compare a [op, op'] [b, c] pos) (bBl (eChain g g' fa fb fc)) := by
  obtain ⟨r, hr, kr⟩ := k
  obtain ⟨r', hr', kr'⟩ := k'
  obtain ⟨t1, p1, q1⟩ := DE.elim ha
  obtain ⟨t2, p2, q2⟩ := DE.elim hb
  obtain ⟨t3, p3, q3⟩ := DE.elim hc
  exact dt_of (mk := tTest) (fun h => h) ⟨_, pt_chain hr hr' p1 p2 p3 hm, fun F σ H Hf ρ Q R p => chain_run (op := op) (op' := op') R kr kr' q1 q2 q3 p⟩
/-! and, or, not -/
def bAnd (ga gb : BX) : BX := fun ρ => (ga ρ).bind fun b ρ1 => if b = true then gb ρ1 else .ok false ρ1
def bOr (ga gb : BX) : BX := fun ρ => (ga ρ).bind fun b ρ1 => if b = true then .ok true ρ1 else gb ρ1
def bNot (ga : BX) : BX := fun ρ => (ga ρ).bind fun b ρ1 => .ok (!b) ρ1
theorem dw_and1 (ha : DT G X W a ga) : DW G X W (.BoolOp .And [a] pos) ga := by
  obtain ⟨t, p, q⟩ := ha
  exact ⟨t, pw_and1 p, q⟩
theorem dw_or1 (ha : DT G X W a ga) : DW G X W (.BoolOp .Or [a] pos) ga := by
  obtain ⟨t, p, q⟩ := ha
  exact ⟨t, pw_or1 p, q⟩
theorem dw_and (ha : DT G X W a ga) (hb : DW G X W (.BoolOp .And (b :: rest) pos) gb) : DW G X W (.BoolOp .And (a :: b :: rest) pos) (bAnd ga gb) := by
  obtain ⟨t1, p1, q1⟩ := ha
  obtain ⟨t2, p2, q2⟩ := hb
  refine ⟨_, pw_and p1 p2, fun F σ H Hf ρ Q R p => ?_⟩
  refine q1 F σ H Hf ρ _ R ((PostE.bind p).imp fun k H1 Hf1 ρ1 _ R1 s1 p => ?_)
  by_cases hk : k = true
  · rw [if_pos hk] at p ⊢
    exact q2 F σ H1 Hf1 ρ1 _ R1 p
  · rw [if_neg hk] at p ⊢
    exact p H1 Hf1 R1 (Same.refl _)
theorem dw_or (ha : DT G X W a ga) (hb : DW G X W (.BoolOp .Or (b :: rest) pos) gb) : DW G X W (.BoolOp .Or (a :: b :: rest) pos) (bOr ga gb) := by
  obtain ⟨t1, p1, q1⟩ := ha
  obtain ⟨t2, p2, q2⟩ := hb
  refine ⟨_, pw_or p1 p2, fun F σ H Hf ρ Q R p => ?_⟩
  refine q1 F σ H Hf ρ _ R ((PostE.bind p).imp fun k H1 Hf1 ρ1 _ R1 s1 p => ?_)
  by_cases hk : k = true
  · rw [if_pos hk] at p ⊢
    exact p H1 Hf1 R1 (Same.refl _)
  · rw [if_neg hk] at p ⊢
    exact q2 F σ H1 Hf1 ρ1 _ R1 p
theorem dt_not (ha : DT G X W a ga) : DT G X W (.UnaryOp .Not a pos) (bNot ga) := by
  obtain ⟨t1, p1, q1⟩ := ha
  refine ⟨_, pt_not p1, fun F σ H Hf ρ Q R p => ?_⟩
  exact q1 F σ H Hf ρ _ R ((PostE.bind p).imp fun k H1 Hf1 ρ1 _ R1 s1 p => p H1 Hf1 R1 (Same.refl _))
/-- .. as values -/
def eAnd (fa fb : EX) : EX := fun ρ => (fa ρ).bind fun x ρ1 => match truth x with
  | some true => fb ρ1
  | some false => .ok x ρ1
  | none => .bad
def eOr (fa fb : EX) : EX := fun ρ => (fa ρ).bind fun x ρ1 => match truth x with
  | some true => .ok x ρ1
  | some false => fb ρ1
  | none => .bad
def eNot (o : Opd) : EX := fun ρ => (o.ev ρ).bind fun a ρ1 => Rs.lift (((a.dat ρ1).bind truth).map fun b => D.bl (!b)) ρ1
theorem de_one {op : BoolOp} (ha : DE G X W a fa) : DE G X W (.BoolOp op [a] pos) fa := by
  obtain ⟨t, p, q⟩ := ha
  exact ⟨t, pe_one p, q⟩
theorem de_and (ha : DE G X W a fa) (hb : DE G X W (.BoolOp .And (b :: rest) pos) fb) (hK : X.K = G.K := by rfl) : DE G X W (.BoolOp .And (a :: b :: rest) pos) (eAnd fa fb) := by
  obtain ⟨t1, p1, q1⟩ := DE.elim ha
  obtain ⟨t2, p2, q2⟩ := DE.elim hb
  refine DE.intro ⟨_, pe_andT p1 p2, fun F σ H Hf ρ Q R p => ?_⟩
  refine q1 F σ H Hf ρ _ R ((PostE.bind p).imp fun x H1 Hf1 ρ1 _ R1 s1 p v1 r1 => ?_)
  cases ht : truth x with
  | none => rw [ht] at p; exact p.elim
  | some k =>
    rw [ht] at p
    refine ⟨k, tru_of hK R1.sub (.inl r1) ht, ?_⟩
    cases k with
    | true => exact q2 F σ H1 Hf1 ρ1 _ R1 p
    | false => exact p H1 Hf1 R1 (Same.refl _) v1 r1
theorem de_or (ha : DE G X W a fa) (hb : DE G X W (.BoolOp .Or (b :: rest) pos) fb) (hK : X.K = G.K := by rfl) : DE G X W (.BoolOp .Or (a :: b :: rest) pos) (eOr fa fb) := by
  obtain ⟨t1, p1, q1⟩ := DE.elim ha
  obtain ⟨t2, p2, q2⟩ := DE.elim hb
  refine DE.intro ⟨_, pe_orT p1 p2, fun F σ H Hf ρ Q R p => ?_⟩
  refine q1 F σ H Hf ρ _ R ((PostE.bind p).imp fun x H1 Hf1 ρ1 _ R1 s1 p v1 r1 => ?_)
  cases ht : truth x with
  | none => rw [ht] at p; exact p.elim
  | some k =>
    rw [ht] at p
    refine ⟨k, tru_of hK R1.sub (.inl r1) ht, ?_⟩
    cases k with
    | true => exact p H1 Hf1 R1 (Same.refl _) v1 r1
    | false => exact q2 F σ H1 Hf1 ρ1 _ R1 p
theorem de_not (ha : DO G X W a o) (hK : X.K = G.K := by rfl) : DE G X W (.UnaryOp .Not a pos) (eNot o) := by
  obtain ⟨t1, p1, q1⟩ := ha
  refine DE.intro ⟨_, pe_notT p1, fun F σ H Hf ρ Q R p => ?_⟩
  refine q1 F σ H Hf ρ _ R ((PostE.bind p).imp fun a1 H1 Hf1 ρ1 _ R1 s1 p v r => ?_)
  obtain ⟨b, hb, q⟩ := lift_post (H := H1) p
  obtain ⟨k, h1, rfl⟩ := Option.map_eq_some_iff.mp hb
  obtain ⟨d, h1, h2⟩ := Option.bind_eq_some_iff.mp h1
  exact ⟨k, tru_of hK R1.sub (ArgOk.rq R1 r h1) h2, q H1 Hf1 R1 (Same.refl _) _ (.bl _)⟩
def eIf (g : BX) (fa fb : EX) : EX := fun ρ => (g ρ).bind fun k ρ1 => if k = true then fa ρ1 else fb ρ1
theorem de_ifExp (hc : DT G X W c g) (ha : DE G X W a fa) (hb : DE G X W b fb) : DE G X W (.IfExp c a b pos) (eIf g fa fb) := by
  obtain ⟨t, p0, q0⟩ := hc
  obtain ⟨t1, p1, q1⟩ := DE.elim ha
  obtain ⟨t2, p2, q2⟩ := DE.elim hb
  refine DE.intro ⟨_, pe_ifExp p0 p1 p2, fun F σ H Hf ρ Q R p => ?_⟩
  refine q0 F σ H Hf ρ _ R ((PostE.bind p).imp fun k H1 Hf1 ρ1 _ R1 s1 p => ?_)
  by_cases hk : k = true
  · rw [if_pos hk] at p ⊢
    exact q1 F σ H1 Hf1 ρ1 _ R1 p
  · rw [if_neg hk] at p ⊢
    exact q2 F σ H1 Hf1 ρ1 _ R1 p
end
end
end Spk

namespace Spk
open PySem PySem.Spec PyProof.Rows L2
section
variable {G : Gx} {X : Cx} {W : WX} {e a b : Expr} {es : List Expr} {o : Opd} {os : List Opd} {pos : Pos}
/-! ### displays -/
def vals? : List Arg → Option (List D)
  | [] => some []
  | .val d :: as => (vals? as).map (d :: ·)
  | .sl _ :: _ => none
theorem ArgsOk.vals {σ : L2.St} {Hf : Hp} : ∀ {vs : List V} {as : List Arg} {ds : List D}, ArgsOk G σ Hf vs as → vals? as = some ds → RpL G Hf vs ds
  | _, _, _, .nil, e => by cases e; exact .nil
  | _, _, _, .cons (a := .val d) h t, e => by
    obtain ⟨ds, h1, rfl⟩ := Option.map_eq_some_iff.mp (show (vals? _).map _ = _ from e)
    exact .cons h (ArgsOk.vals t h1)
  | _, _, _, .cons (a := .sl i) h t, e => by cases e
def eTup (os : List Opd) : EX := fun ρ => (evs os ρ).bind fun as ρ1 => Rs.lift ((vals? as).bind fun ds => if ds.length ≤ sizeLine then some (.tup ds) else none) ρ1
theorem de_tup {x1 : Nat} (ha : DA G X W es os) : DE G X W (.Tuple es x1 pos) (eTup os) := by
  obtain ⟨t1, p1, q1⟩ := ha
  refine DE.intro ⟨_, pe_tup p1, fun F σ H Hf ρ Q R p => ?_⟩
  refine q1 F σ H Hf ρ _ R ((PostE.bind p).imp fun as H1 Hf1 ρ1 _ R1 s1 p vs rs => ?_)
  obtain ⟨d, hd, q⟩ := lift_post (H := H1) p
  obtain ⟨ds, h1, h2⟩ := Option.bind_eq_some_iff.mp hd
  obtain ⟨c, rfl⟩ := ite_some' h2
  have rl := rs.vals h1
  refine ⟨by rw [rl.len]; exact c, fun p np => ?_⟩
  obtain ⟨R', s', r'⟩ := R1.laidT np rl
  exact q _ _ R' s' _ r'
/-! ### a new list that nothing else knows -/
def DF (G : Gx) (X : Cx) (W : WX) (e : Expr) (f : PEnv → Rs (List D)) : Prop := ∃ t, PE X e t ∧ ∀ (F : Fr) (σ : L2.St) (H Hf : Hp) (ρ : PEnv) (Q : VK), Rep G F σ H Hf ρ →
  PostE G F W σ Hf (fun ds H' Hf' ρ' => ∀ (p : Addr) (vs : List V), H' p = none → RpL G Hf' vs ds → Q (.ref p) (upd H' p (.lst vs))) (f ρ) → t σ H Q
def eFr (f : PEnv → Rs (List D)) : EX := fun ρ => (f ρ).bind fun ds ρ1 => .ok (.lst ds) ρ1
theorem DF.de {f : PEnv → Rs (List D)} (h : DF G X W e f) : DE G X W e (eFr f) := by
  obtain ⟨t, p1, q1⟩ := h
  refine DE.intro ⟨t, p1, fun F σ H Hf ρ Q R p => q1 F σ H Hf ρ Q R ((PostE.bind p).imp fun ds H1 Hf1 ρ1 _ R1 s1 p q vs nq rl => ?_)⟩
  obtain ⟨R', s', r'⟩ := R1.laid nq rl
  exact p _ _ R' s' _ r'
def fLst (os : List Opd) : PEnv → Rs (List D) := fun ρ => (evs os ρ).bind fun as ρ1 => Rs.lift ((vals? as).bind fun ds => if ds.length ≤ sizeLine then some ds else none) ρ1
theorem df_lst (ha : DA G X W es os) : DF G X W (.List es pos) (fLst os) := by
  obtain ⟨t1, p1, q1⟩ := ha
  refine ⟨_, pe_lst p1, fun F σ H Hf ρ Q R p => ?_⟩
  refine q1 F σ H Hf ρ _ R ((PostE.bind p).imp fun as H1 Hf1 ρ1 _ R1 s1 p vs rs => ?_)
  obtain ⟨d, hd, q⟩ := lift_post (H := H1) p
  obtain ⟨ds, h1, h2⟩ := Option.bind_eq_some_iff.mp hd
  obtain ⟨c, rfl⟩ := ite_some' h2
  have rl := rs.vals h1
  exact ⟨by rw [rl.len]; exact c, fun p np => q _ _ R1 (Same.refl _) _ _ np rl⟩
/-! ### subscripts -/
def ixD : D → D → Option D
  | .lst ds, .int i => atI ds i
  | .tup ds, .int i => atI ds i
  | .scr ns, .int i => (atI ns i).map D.int
  | .str x, .int i => if x.length ≤ sizeLine then (atI x.cps.toList i).bind fun c => if PyData.canLay0 (.str ⟨#[c]⟩) = true then some (.str ⟨#[c]⟩) else none else none
  | _, _ => none
theorem atI_rp {H : Hp} {vs : List V} {ds : List D} {i : Int} {d : D} (r : RpL G H vs ds) (e : atI ds i = some d) : ∃ v, atI vs i = some v ∧ Rp G H v d := by
  unfold atI at e ⊢
  rw [r.len]
  cases h : ixN ds.length i with
  | none => rw [h] at e; cases e
  | some j =>
    rw [h] at e
    obtain ⟨v, h1, h2⟩ := r.getD (show ds[j]? = some d from e)
    exact ⟨v, h1, h2⟩
theorem atI_map {α β : Type} {f : α → β} {xs : List α} {i : Int} {x : α} (e : atI xs i = some x) : atI (xs.map f) i = some (f x) := by
  unfold atI at e ⊢
  rw [List.length_map]
  cases h : ixN xs.length i with
  | none => rw [h] at e; cases e
  | some j =>
    rw [h] at e
    show (xs.map f)[j]? = _
    rw [List.getElem?_map, show xs[j]? = some x from e]; rfl
theorem ix_all (hK : X.K = G.K) : IxR X (rIx G.K) := hK ▸ (IxR.or ix_list (IxR.or ix_tup ix_str))
theorem de_ix {o1 o2 : Opd} (ha : DO G X W a o1) (hb : DO G X W b o2) (hK : X.K = G.K := by rfl) (hs : PlainIx b := by exact fun _ _ => rfl) : DE G X W (.Subscript a b pos) (eOp (op2 ixD) [o1, o2]) := by
  obtain ⟨t1, p1, q1⟩ := ha
  obtain ⟨t2, p2, q2⟩ := hb
  refine DE.intro ⟨_, pe_ix (ix_all hK) p1 p2 hs, fun F σ H Hf ρ Q R p => ?_⟩
  refine q1 F σ H Hf ρ _ R ((PostE.bind (PostE.bind p)).imp fun a1 H1 Hf1 ρ1 _ R1 s1 p v1 r1 => ?_)
  refine q2 F σ H1 Hf1 ρ1 _ R1 ((PostE.bind (PostE.bind p)).imp fun a2 H2 Hf2 ρ2 _ R2 s2 p v2 r2 => ?_)
  have p := p H2 Hf2 R2 (Same.refl _) H2 Hf2 R2 (Same.refl _)
  obtain ⟨d, hd, q⟩ := lift_post (H := H2) p
  obtain ⟨ds, h1, h2⟩ := Option.bind_eq_some_iff.mp hd
  have as : ArgsOk G σ Hf2 [v1, v2] [a1, a2] := .cons (r1.mono s2) (.cons r2 .nil)
  cases as.rq R2 h1 with
  | cons x1 t =>
    cases t with
    | @cons _ _ y _ x2 t =>
      cases t
      rename_i x
      change ixD x y = some d at h2
      unfold ixD at h2
      split at h2
      · obtain rfl := x2.i
        obtain ⟨p, vs, rfl, hp, rl⟩ := x1.lst R2.sub
        obtain ⟨v, e, r⟩ := atI_rp rl h2
        exact .inl ⟨p, vs, _, v, rfl, rfl, SqL.hp hp, e, q H2 Hf2 R2 (Same.refl _) v r⟩
      · obtain rfl := x2.i
        obtain ⟨p, vs, rfl, hp, rl⟩ := x1.t R2.sub
        obtain ⟨v, e, r⟩ := atI_rp rl h2
        exact .inr (.inl ⟨p, vs, _, v, rfl, rfl, hp, e, q H2 Hf2 R2 (Same.refl _) v r⟩)
      · obtain rfl := x2.i
        obtain ⟨n, h3, rfl⟩ := Option.map_eq_some_iff.mp h2
        cases x1.nl (fun _ z => nomatch z) with
        | scr hp => exact .inl ⟨_, _, _, _, rfl, rfl, R2.sub.seq hp, atI_map h3, q H2 Hf2 R2 (Same.refl _) _ (.int _)⟩
      · obtain rfl := x2.i
        obtain ⟨rfl, _⟩ := x1.s
        rename_i z i _
        by_cases c : z.length ≤ sizeLine
        · rw [if_pos c] at h2
          obtain ⟨k, h3, h4⟩ := Option.bind_eq_some_iff.mp h2
          obtain ⟨c2, rfl⟩ := ite_some' h4
          exact .inr (.inr ⟨_, _, _, rfl, rfl, c, h3, q H2 Hf2 R2 (Same.refl _) _ (.str c2)⟩)
        · rw [if_neg c] at h2; cases h2
      · cases h2
def ixI : D → Option Int
  | .int i => some i
  | _ => none
/-- a slice's bound -/
def Bd := Option EX
def Bd.ev : Option EX → PEnv → Rs (Option Int)
  | none, ρ => .ok none ρ
  | some f, ρ => (f ρ).bind fun d ρ1 => match d with
    | .int i => .ok (some i) ρ1
    | _ => .bad
def DB (G : Gx) (X : Cx) (W : WX) (e : Option Expr) (f : Option EX) : Prop := ∃ t, PO X e t ∧ ∀ (F : Fr) (σ : L2.St) (H Hf : Hp) (ρ : PEnv) (Q : Option Int → Hp → Prop), Rep G F σ H Hf ρ →
  PostE G F W σ Hf (fun i H' _ _ => Q i H') (Bd.ev f ρ) → t σ H Q
theorem db_none : DB G X W none none := ⟨_, po_none, fun F σ H Hf ρ Q R p => p H Hf R (Same.refl _)⟩
theorem db_some {f : EX} (h : DE G X W e f) : DB G X W (some e) (some f) := by
  obtain ⟨t, p1, q1⟩ := DE.elim h
  refine ⟨_, po_some p1, fun F σ H Hf ρ Q R p => q1 F σ H Hf ρ _ R ((PostE.bind p).imp fun d H1 Hf1 ρ1 _ R1 s1 p v r => ?_)⟩
  cases d with
  | int i =>
    obtain rfl := rp_i r
    exact ⟨i, rfl, p H1 Hf1 R1 (Same.refl _)⟩
  | _ => exact p.elim
def cutD (ds : List D) (lo hi : Option Int) : List D := (ds.drop (HT.sIx ds.length 0 lo)).take (HT.sIx ds.length ds.length hi - HT.sIx ds.length 0 lo)
def slD (lo hi : Option Int) : D → Option D
  | .lst ds => some (.lst (cutD ds lo hi))
  | .tup ds => some (.tup (cutD ds lo hi))
  | .scr ns => some (.lst ((((ns.drop (HT.sIx ns.length 0 lo)).take (HT.sIx ns.length ns.length hi - HT.sIx ns.length 0 lo))).map D.int))
  | _ => none
theorem RpL.ints {H : Hp} : ∀ (ns : List Int), RpL G H (ns.map V.int) (ns.map D.int)
  | [] => .nil
  | n :: ns => .cons (.int n) (RpL.ints ns)
def eSl (o : Opd) (lo hi : Option EX) : EX := fun ρ => (o.ev ρ).bind fun a ρ1 => (Bd.ev lo ρ1).bind fun l ρ2 => (Bd.ev hi ρ2).bind fun h ρ3 => Rs.lift ((a.dat ρ3).bind (slD l h)) ρ3
theorem slr_or {r1 r2 : V → Option Int → Option Int → Hp → VK → Prop} (h1 : SlR X r1) (h2 : SlR X r2) : SlR X (fun x l h H Q => r1 x l h H Q ∨ r2 x l h H Q) := by
  intro pins s σ H x v vl vu lo hi sl Q I rx hs pl pu h
  rcases h with h | h
  · exact h1 pins s σ H x v vl vu lo hi sl Q I rx hs pl pu h
  · exact h2 pins s σ H x v vl vu lo hi sl Q I rx hs pl pu h
theorem de_slice {lo hi : Option Expr} {fl fh : Option EX} {p2 : Pos} (ha : DO G X W a o) (hl : DB G X W lo fl) (hh : DB G X W hi fh) (hK : X.K = G.K := by rfl) : DE G X W (.Subscript a (.Slice lo hi none p2) pos) (eSl o fl fh) := by
  obtain ⟨t1, p1, q1⟩ := ha
  obtain ⟨t2, p2, q2⟩ := hl
  obtain ⟨t3, p3, q3⟩ := hh
  refine DE.intro ⟨_, pe_slice (slr_or (hK ▸ sl_list : SlR X (rSlL G.K)) (hK ▸ sl_tupA : SlR X (rSlA G.K))) p1 p2 p3, fun F σ H Hf ρ Q R p => ?_⟩
  refine q1 F σ H Hf ρ _ R ((PostE.bind p).imp fun a1 H1 Hf1 ρ1 _ R1 s1 p v1 r1 => ?_)
  refine q2 F σ H1 Hf1 ρ1 _ R1 ((PostE.bind p).imp fun l H2 Hf2 ρ2 _ R2 s2 p => ?_)
  refine q3 F σ H2 Hf2 ρ2 _ R2 ((PostE.bind p).imp fun h H3 Hf3 ρ3 _ R3 s3 p => ?_)
  obtain ⟨d, hd, q⟩ := lift_post (H := H3) p
  obtain ⟨x, h1, h2⟩ := Option.bind_eq_some_iff.mp hd
  have x1 := ArgOk.rq R3 (r1.mono (s2.trans s3)) h1
  unfold slD at h2
  split at h2
  · rename_i _ dd
    cases h2
    obtain ⟨p, vs, rfl, hp, rl⟩ := x1.lst R3.sub
    refine .inl ⟨p, vs, rfl, SqL.hp hp, fun p np => ?_⟩
    have rc : RpL G Hf3 (cutV vs l h) (cutD dd l h) := by
      unfold cutV cutD
      rw [rl.len]
      exact (rl.drop _).take _
    obtain ⟨R', s', r'⟩ := R3.laid np rc
    exact q _ _ R' s' _ r'
  · rename_i _ dd
    cases h2
    obtain ⟨p, vs, rfl, hp, rl⟩ := x1.t R3.sub
    have rc : RpL G Hf3 (cutV vs l h) (cutD dd l h) := by
      unfold cutV cutD
      rw [rl.len]
      exact (rl.drop _).take _
    refine .inr ⟨p, vs, rfl, hp, fun z => ?_, fun _ p np => ?_⟩
    · have e : ∀ ds : List D, HT.sIx ds.length 0 l = 0 ∧ HT.sIx ds.length ds.length h = ds.length → cutD ds l h = ds := fun ds z => by
        unfold cutD
        rw [z.1, z.2, List.drop_zero, Nat.sub_zero, List.take_length]
      rw [rl.len] at z
      rw [e _ z] at q
      exact q H3 Hf3 R3 (Same.refl _) _ (x1.nl fun _ z => nomatch z)
    · obtain ⟨R', s', r'⟩ := R3.laidT np rc
      exact q _ _ R' s' _ r'
  · cases h2
    rename_i ns
    cases x1.nl (fun _ z => nomatch z) with
    | scr hp =>
      refine .inl ⟨_, _, rfl, R3.sub.seq hp, fun p np => ?_⟩
      have rc : RpL G Hf3 (cutV (ns.map V.int) l h) ((((ns.drop (HT.sIx ns.length 0 l)).take (HT.sIx ns.length ns.length h - HT.sIx ns.length 0 l))).map D.int) := by
        unfold cutV
        rw [List.length_map, ← List.map_drop, ← List.map_take]
        exact RpL.ints _
      obtain ⟨R', s', r'⟩ := R3.laid np rc
      exact q _ _ R' s' _ r'
  · cases h2
/-! ### built-ins -/
theorem RqL.one {H Hf : Hp} {vs : List V} {x : D} (h : RqL G H Hf vs [x]) : ∃ v, vs = [v] ∧ Rq G H Hf v x := by
  cases h with | cons a t => cases t; exact ⟨_, rfl, a⟩
theorem RqL.two {H Hf : Hp} {vs : List V} {x y : D} (h : RqL G H Hf vs [x, y]) : ∃ v w, vs = [v, w] ∧ Rq G H Hf v x ∧ Rq G H Hf w y := by
  cases h with | cons a t => cases t with | cons b t => cases t; exact ⟨_, _, rfl, a, b⟩
theorem op1_of {op : D → Option D} {ds : List D} {d : D} (e : op1 op ds = some d) : ∃ x, ds = [x] ∧ op x = some d := by
  match ds, e with
  | [x], e => exact ⟨x, rfl, e⟩
theorem op2_of {op : D → D → Option D} {ds : List D} {d : D} (e : op2 op ds = some d) : ∃ x y, ds = [x, y] ∧ op x y = some d := by
  match ds, e with
  | [x, y], e => exact ⟨x, y, rfl, e⟩
def lenD : D → Option D
  | .lst ds => some (.int ds.length)
  | .tup ds => some (.int ds.length)
  | .scr ns => some (.int ns.length)
  | .str x => if x.length ≤ sizeLine then some (.int x.length) else none
  | _ => none
theorem cd_len (hK : X.K = G.K := by rfl) : CallD G X (.builtin "len") (op1 lenD) := by
  refine ⟨_, hK ▸ call_len, fun F σ H Hf ρ vs ds d Q R rs e0 q => ?_⟩
  obtain ⟨x, rfl, ee⟩ := op1_of e0
  obtain ⟨v, rfl, r⟩ := rs.one
  cases x <;> simp only [lenD] at ee <;> try cases ee
  · obtain ⟨c, rfl⟩ := ite_some' ee
    obtain ⟨rfl, _⟩ := r.s
    exact ⟨_, _, rfl, ⟨c, rfl⟩, q _ H Hf R (Same.refl _) (.int _)⟩
  · obtain ⟨p, ws, rfl, hp, rl⟩ := r.lst R.sub
    rw [← rl.len] at q
    exact ⟨_, _, rfl, .inl ⟨ws, SqL.hp hp, rfl⟩, q _ H Hf R (Same.refl _) (.int _)⟩
  · obtain ⟨p, ws, rfl, hp, rl⟩ := r.t R.sub
    rw [← rl.len] at q
    exact ⟨_, _, rfl, .inr ⟨ws, hp, rfl⟩, q _ H Hf R (Same.refl _) (.int _)⟩
  · rename_i ns
    cases r.nl (fun _ z => nomatch z) with
    | scr hp => exact ⟨_, _, rfl, .inl ⟨_, R.sub.seq hp, rfl⟩, q _ H Hf R (Same.refl _) (by rw [List.length_map]; exact .int _)⟩
def absD : D → Option D
  | .int i => some (.int (if i < 0 then -i else i))
  | _ => none
theorem cd_abs : CallD G X (.builtin "abs") (op1 absD) := by
  refine ⟨_, call_abs, fun F σ H Hf ρ vs ds d Q R rs e0 q => ?_⟩
  obtain ⟨x, rfl, ee⟩ := op1_of e0
  obtain ⟨v, rfl, r⟩ := rs.one
  cases x <;> simp only [absD] at ee <;> cases ee
  obtain rfl := r.i
  exact ⟨_, rfl, q _ H Hf R (Same.refl _) (.int _)⟩
def maxD : D → D → Option D := intOp fun i j => some (if j > i then j else i)
def minD : D → D → Option D := intOp fun i j => some (if j < i then j else i)
theorem cd_ii {f : Value} {g : Int → Int → Int} (h : CallR X f (fun xs H Q => ∃ i j, xs = [.int i, .int j] ∧ Q (.int (g i j)) H)) : CallD G X f (op2 (intOp fun i j => some (g i j))) := by
  refine ⟨_, h, fun F σ H Hf ρ vs ds d Q R rs e0 q => ?_⟩
  obtain ⟨x, y, rfl, ee⟩ := op2_of e0
  obtain ⟨v, w, rfl, r1, r2⟩ := rs.two
  cases x <;> cases y <;> simp only [intOp, Option.map_some] at ee <;> cases ee
  obtain rfl := r1.i
  obtain rfl := r2.i
  exact ⟨_, _, rfl, q _ H Hf R (Same.refl _) (.int _)⟩
theorem cd_max2 (hc : X.calm = true := by rfl) : CallD G X (.builtin "max") (op2 maxD) := cd_ii (call_max2 hc)
theorem cd_min2 (hc : X.calm = true := by rfl) : CallD G X (.builtin "min") (op2 minD) := cd_ii (call_min2 hc)
def intD : D → Option D
  | .int i => some (.int i)
  | .bl b => some (.int (if b then 1 else 0))
  | _ => none
theorem cd_int : CallD G X (.type "int") (op1 intD) := by
  refine ⟨_, call_int1, fun F σ H Hf ρ vs ds d Q R rs e0 q => ?_⟩
  obtain ⟨x, rfl, ee⟩ := op1_of e0
  obtain ⟨v, rfl, r⟩ := rs.one
  cases x <;> simp [intD] at ee <;> cases ee
  · obtain rfl := r.b
    exact .inr ⟨_, rfl, q _ H Hf R (Same.refl _) (.int _)⟩
  · obtain rfl := r.i
    exact .inl ⟨_, rfl, q _ H Hf R (Same.refl _) (.int _)⟩
def boolD : D → Option D
  | .int i => some (.bl (i != 0))
  | .bl b => some (.bl b)
  | _ => none
theorem cd_bool : CallD G X (.type "bool") (op1 boolD) := by
  refine ⟨_, call_bool1, fun F σ H Hf ρ vs ds d Q R rs e0 q => ?_⟩
  obtain ⟨x, rfl, ee⟩ := op1_of e0
  obtain ⟨v, rfl, r⟩ := rs.one
  cases x <;> simp [boolD] at ee <;> cases ee
  · obtain rfl := r.b
    exact .inr ⟨_, rfl, q _ H Hf R (Same.refl _) (.bl _)⟩
  · obtain rfl := r.i
    exact .inl ⟨_, rfl, q _ H Hf R (Same.refl _) (.bl _)⟩
/-- list(x), tuple(x) -/
def listD : D → Option D
  | .lst ds => some (.lst ds)
  | .tup ds => some (.lst ds)
  | .scr ns => some (.lst (ns.map D.int))
  | _ => none
theorem cd_list (hK : X.K = G.K := by rfl) : CallD G X (.type "list") (op1 listD) := by
  refine ⟨_, hK ▸ call_list_of, fun F σ H Hf ρ vs ds d Q R rs e0 q => ?_⟩
  obtain ⟨x, rfl, ee⟩ := op1_of e0
  obtain ⟨v, rfl, r⟩ := rs.one
  cases x <;> simp only [listD] at ee <;> cases ee
  · obtain ⟨p, ws, rfl, hp, rl⟩ := r.lst R.sub
    refine ⟨_, _, rfl, .inl (SqL.hp hp), fun l nl => ?_⟩
    obtain ⟨R', s', r'⟩ := R.laid nl rl
    exact q _ _ _ R' s' r'
  · obtain ⟨p, ws, rfl, hp, rl⟩ := r.t R.sub
    refine ⟨_, _, rfl, .inr hp, fun l nl => ?_⟩
    obtain ⟨R', s', r'⟩ := R.laid nl rl
    exact q _ _ _ R' s' r'
  · cases r.nl (fun _ z => nomatch z) with
    | scr hp =>
      refine ⟨_, _, rfl, .inl (R.sub.seq hp), fun l nl => ?_⟩
      obtain ⟨R', s', r'⟩ := R.laid nl (RpL.ints _)
      exact q _ _ _ R' s' r'
def tupD : D → Option D
  | .lst ds => some (.tup ds)
  | .tup ds => some (.tup ds)
  | .scr ns => some (.tup (ns.map D.int))
  | _ => none
theorem cd_tup (hK : X.K = G.K := by rfl) : CallD G X (.type "tuple") (op1 tupD) := by
  refine ⟨_, hK ▸ call_tuple_of, fun F σ H Hf ρ vs ds d Q R rs e0 q => ?_⟩
  obtain ⟨x, rfl, ee⟩ := op1_of e0
  obtain ⟨v, rfl, r⟩ := rs.one
  cases x <;> simp only [tupD] at ee <;> cases ee
  · obtain ⟨p, ws, rfl, hp, rl⟩ := r.lst R.sub
    refine ⟨_, _, rfl, .inl ⟨SqL.hp hp, fun l nl => ?_⟩⟩
    obtain ⟨R', s', r'⟩ := R.laidT nl rl
    exact q _ _ _ R' s' r'
  · obtain ⟨p, ws, rfl, hp, rl⟩ := r.t R.sub
    exact ⟨_, _, rfl, .inr ⟨hp, q _ H Hf R (Same.refl _) (r.nl fun _ z => nomatch z)⟩⟩
  · cases r.nl (fun _ z => nomatch z) with
    | scr hp =>
      refine ⟨_, _, rfl, .inl ⟨R.sub.seq hp, fun l nl => ?_⟩⟩
      obtain ⟨R', s', r'⟩ := R.laidT nl (RpL.ints _)
      exact q _ _ _ R' s' r'
/-- sum, any, all of a list -/
def ints? : List D → Option (List Int)
  | [] => some []
  | .int i :: ds => (ints? ds).map (i :: ·)
  | _ :: _ => none
def bls? : List D → Option (List Bool)
  | [] => some []
  | .bl i :: ds => (bls? ds).map (i :: ·)
  | _ :: _ => none
theorem RpL.ints? {H : Hp} : ∀ {vs : List V} {ds : List D} {ns : List Int}, RpL G H vs ds → Spk.ints? ds = some ns → vs = ns.map V.int
  | _, _, _, .nil, e => by cases e; rfl
  | _, _, _, .cons (d := .int i) h t, e => by
    obtain ⟨ns, h1, rfl⟩ := Option.map_eq_some_iff.mp (show (Spk.ints? _).map _ = _ from e)
    rw [rp_i h, RpL.ints? t h1]; rfl
  | _, _, _, .cons (d := .non) h t, e => by cases e
  | _, _, _, .cons (d := .bl _) h t, e => by cases e
  | _, _, _, .cons (d := .str _) h t, e => by cases e
  | _, _, _, .cons (d := .lst _) h t, e => by cases e
  | _, _, _, .cons (d := .tup _) h t, e => by cases e
  | _, _, _, .cons (d := .ins _ _ _) h t, e => by cases e
  | _, _, _, .cons (d := .scr _) h t, e => by cases e
theorem RpL.bls? {H : Hp} : ∀ {vs : List V} {ds : List D} {ns : List Bool}, RpL G H vs ds → Spk.bls? ds = some ns → vs = ns.map V.bl
  | _, _, _, .nil, e => by cases e; rfl
  | _, _, _, .cons (d := .bl i) h t, e => by
    obtain ⟨ns, h1, rfl⟩ := Option.map_eq_some_iff.mp (show (Spk.bls? _).map _ = _ from e)
    rw [rp_b h, RpL.bls? t h1]; rfl
  | _, _, _, .cons (d := .non) h t, e => by cases e
  | _, _, _, .cons (d := .int _) h t, e => by cases e
  | _, _, _, .cons (d := .str _) h t, e => by cases e
  | _, _, _, .cons (d := .lst _) h t, e => by cases e
  | _, _, _, .cons (d := .tup _) h t, e => by cases e
  | _, _, _, .cons (d := .ins _ _ _) h t, e => by cases e
  | _, _, _, .cons (d := .scr _) h t, e => by cases e
def sumD : D → Option D
  | .lst ds => (ints? ds).map fun ns => .int ns.sum
  | _ => none
theorem cd_sum (hc : X.calm = true := by rfl) (hK : X.K = G.K := by rfl) : CallD G X (.builtin "sum") (op1 sumD) := by
  refine ⟨_, hK ▸ cr_sum hc, fun F σ H Hf ρ vs ds d Q R rs e0 q => ?_⟩
  obtain ⟨x, rfl, ee⟩ := op1_of e0
  obtain ⟨v, rfl, r⟩ := rs.one
  cases x <;> simp only [sumD] at ee <;> try cases ee
  obtain ⟨ns, h1, rfl⟩ := Option.map_eq_some_iff.mp ee
  obtain ⟨p, ws, rfl, hp, rl⟩ := r.lst R.sub
  obtain rfl := rl.ints? h1
  exact ⟨_, _, rfl, SqL.hp hp, q _ H Hf R (Same.refl _) (.int _)⟩
def anyD : D → Option D
  | .lst ds => (bls? ds).map fun ns => .bl (ns.any id)
  | _ => none
def allD : D → Option D
  | .lst ds => (bls? ds).map fun ns => .bl (ns.all id)
  | _ => none
theorem cd_any (hc : X.calm = true := by rfl) (hK : X.K = G.K := by rfl) : CallD G X (.builtin "any") (op1 anyD) := by
  refine ⟨_, hK ▸ cr_any hc, fun F σ H Hf ρ vs ds d Q R rs e0 q => ?_⟩
  obtain ⟨x, rfl, ee⟩ := op1_of e0
  obtain ⟨v, rfl, r⟩ := rs.one
  cases x <;> simp only [anyD] at ee <;> try cases ee
  obtain ⟨ns, h1, rfl⟩ := Option.map_eq_some_iff.mp ee
  obtain ⟨p, ws, rfl, hp, rl⟩ := r.lst R.sub
  obtain rfl := rl.bls? h1
  exact ⟨_, _, rfl, SqL.hp hp, q _ H Hf R (Same.refl _) (.bl _)⟩
theorem cd_all (hc : X.calm = true := by rfl) (hK : X.K = G.K := by rfl) : CallD G X (.builtin "all") (op1 allD) := by
  refine ⟨_, hK ▸ cr_all hc, fun F σ H Hf ρ vs ds d Q R rs e0 q => ?_⟩
  obtain ⟨x, rfl, ee⟩ := op1_of e0
  obtain ⟨v, rfl, r⟩ := rs.one
  cases x <;> simp only [allD] at ee <;> try cases ee
  obtain ⟨ns, h1, rfl⟩ := Option.map_eq_some_iff.mp ee
  obtain ⟨p, ws, rfl, hp, rl⟩ := r.lst R.sub
  obtain rfl := rl.bls? h1
  exact ⟨_, _, rfl, SqL.hp hp, q _ H Hf R (Same.refl _) (.bl _)⟩
/-- repr, str -/
def reprD (d : D) : Option D := if d.pure = true ∧ d.py.showable = true ∧ d.py.hasDict = false ∧ d.py.depth ≤ 64 ∧ d.py.shown.length ≤ sizeLine ∧ PyData.canLay0 (.str d.py.shown) = true then some (.str d.py.shown) else none
theorem cd_repr {k : Nat} (gd : X.A.guards = some []) (rm : Room k X.A) (hK : X.K = G.K := by rfl) : CallD G X (.builtin "repr") (op1 reprD) := by
  refine ⟨_, hK ▸ call_reprD gd rm, fun F σ H Hf ρ vs ds d Q R rs e0 q => ?_⟩
  obtain ⟨x, rfl, ee⟩ := op1_of e0
  obtain ⟨v, rfl, r⟩ := rs.one
  obtain ⟨⟨c1, c2, c3, c4, c5, c6⟩, rfl⟩ := ite_some' ee
  exact ⟨_, _, rfl, Rp.dp x (r.rp R.sub) c1, c2, c3, c4, c5, q _ H Hf R (Same.refl _) (.str c6)⟩
def strD : D → Option D
  | .int i => if i.natAbs.log2 < 1920 ∧ PyData.canLay0 (.str (toString i)) = true then some (.str (toString i)) else none
  | .str x => some (.str x)
  | _ => none
theorem cd_str : CallD G X (.type "str") (op1 strD) := by
  refine ⟨_, callr_or call_str_int SkE.call_str_str, fun F σ H Hf ρ vs ds d Q R rs e0 q => ?_⟩
  obtain ⟨x, rfl, ee⟩ := op1_of e0
  obtain ⟨v, rfl, r⟩ := rs.one
  cases x <;> simp only [strD] at ee <;> try cases ee
  · obtain ⟨c, rfl⟩ := ite_some' ee
    obtain rfl := r.i
    exact .inl ⟨_, rfl, c.1, q _ H Hf R (Same.refl _) (.str c.2)⟩
  · obtain ⟨rfl, c⟩ := r.s
    exact .inr ⟨_, rfl, q _ H Hf R (Same.refl _) (.str c)⟩
end
end Spk

namespace Spk
open PySem PySem.Spec PyProof.Rows L2
/-! ### targets -/
abbrev TGf := D → PEnv → Option PEnv
/-- a target: idx, the slots that it stores to -/
def DG (G : Gx) (X : Cx) (e : Expr) (idx : List Nat) (g : TGf) : Prop := ∃ t, PG X e t ∧ ∀ (F : Fr) (σ : L2.St) (H Hf : Hp) (ρ ρ' : PEnv) (v : V) (d : D) (Q : L2.St → Hp → Prop), Rep G F σ H Hf ρ → Rp G Hf v d → g d ρ = some ρ' →
  (∀ σ', Rep G F σ' H Hf ρ' → (∀ vs, (∀ i ∈ idx, i ∈ vs) → wipe σ' vs = wipe σ vs) → Q σ' H) → t v σ H Q
def DGs (G : Gx) (X : Cx) (es : List Expr) (idx : List Nat) (g : List D → PEnv → Option PEnv) : Prop := ∃ t, PGs X es t ∧ ∀ (F : Fr) (σ : L2.St) (H Hf : Hp) (ρ ρ' : PEnv) (vs : List V) (ds : List D) (Q : L2.St → Hp → Prop), Rep G F σ H Hf ρ → RpL G Hf vs ds → g ds ρ = some ρ' →
  (∀ σ', Rep G F σ' H Hf ρ' → (∀ vs, (∀ i ∈ idx, i ∈ vs) → wipe σ' vs = wipe σ vs) → Q σ' H) → t vs σ H Q
theorem wipe_set {i : Nat} {x : Option V} : ∀ {vs : List Nat} {σ : L2.St}, i ∈ vs → wipe (σ.set i x) vs = wipe σ vs
  | v :: vs, σ, h => by
    unfold wipe
    by_cases e : i ∈ vs
    · rw [wipe_set e]
    · have e2 : i = v := (List.mem_cons.mp h).resolve_right e
      subst e2
      have go : ∀ ws : List Nat, i ∉ ws → wipe (σ.set i x) ws = (wipe σ ws).set i x := by
        intro ws
        induction ws with
        | nil => intro _; rfl
        | cons w ws ih =>
          intro hn
          unfold wipe
          have n1 : i ≠ w := fun z => hn (z ▸ List.mem_cons_self)
          rw [ih fun z => hn (List.mem_cons_of_mem _ z), List.set_comm _ _ n1]
      rw [go vs e, List.set_set]
def notBor (ρ : PEnv) (i : Nat) : Bool := match ρ[i]? with
  | some (.bor _) => false
  | _ => true
def gSet (i : Nat) : TGf := fun d ρ => if notBor ρ i = true then some (ρ.set i (.val d)) else none
section
variable {G : Gx} {X : Cx} {W : WX} {e : Expr} {es : List Expr} {pos : Pos}
theorem dg_name {i : Nat} {x : Str} (hN : X.N.Nodup) (hi : X.N[i]? = some x := by rfl) (hx : Loc X.env.scope x := by first | exact .inl rfl | exact .inr rfl) (hf : X.fn x = true ∨ X.env.scope.names.lookup x = some .local := by first | exact .inl rfl | exact .inr rfl | assumption) : DG G X (.Name x pos) [i] (gSet i) := by
  refine ⟨_, pg_name (i := i) hN hi hx hf, fun F σ H Hf ρ ρ' v d Q R r eg q => ?_⟩
  obtain ⟨_, rfl⟩ := ite_some' eg
  exact q _ (R.set i r) fun vs h => wipe_set (h i (List.mem_singleton_self i))
def gsNil : List D → PEnv → Option PEnv := fun ds ρ => match ds with
  | [] => some ρ
  | _ => none
def gsCons (g : TGf) (gs : List D → PEnv → Option PEnv) : List D → PEnv → Option PEnv := fun ds ρ => match ds with
  | d :: r => (g d ρ).bind (gs r)
  | _ => none
theorem dgs_nil : DGs G X [] [] gsNil := by
  refine ⟨_, pgs_nil, fun F σ H Hf ρ ρ' vs ds Q R r eg q => ?_⟩
  cases r with
  | nil => cases eg; exact ⟨rfl, q σ R fun _ _ => rfl⟩
  | cons _ _ => cases eg
theorem dgs_cons {i1 i2 : List Nat} {g : TGf} {gs : List D → PEnv → Option PEnv} (h1 : DG G X e i1 g) (h2 : DGs G X es i2 gs) (hs : (assignEach (e :: es) X.env).map (·.2) = assign e X.env :: (assignEach es X.env).map (·.2) := by rfl) : DGs G X (e :: es) (i1 ++ i2) (gsCons g gs) := by
  obtain ⟨t1, p1, q1⟩ := h1
  obtain ⟨t2, p2, q2⟩ := h2
  refine ⟨_, pgs_cons p1 p2 hs, fun F σ H Hf ρ ρ' vs ds Q R r eg q => ?_⟩
  cases r with
  | nil => cases eg
  | @cons v vr d dr r1 r2 =>
    obtain ⟨ρ1, h1, h2⟩ := Option.bind_eq_some_iff.mp (show (g d ρ).bind (gs dr) = some ρ' from eg)
    refine ⟨v, vr, rfl, q1 F σ H Hf ρ ρ1 v d _ R r1 h1 fun σ1 R1 w1 => ?_⟩
    refine q2 F σ1 H Hf ρ1 ρ' vr dr _ R1 r2 h2 fun σ2 R2 w2 => ?_
    exact q σ2 R2 fun vs h => (w2 vs fun i hi => h i (List.mem_append_right _ hi)).trans (w1 vs fun i hi => h i (List.mem_append_left _ hi))
def gTupD (n : Nat) (gs : List D → PEnv → Option PEnv) : TGf := fun d ρ => match d with
  | .tup ds => if ds.length = n then gs ds ρ else none
  | _ => none
theorem dg_tup {k n : Nat} {idx : List Nat} {gs : List D → PEnv → Option PEnv} (hc : X.calm = true) (h : DGs G X es idx gs) (hK : X.K = G.K := by rfl) (hn : (assignEach es X.env).length = n := by rfl) (hst : (assignEach es X.env).findIdx? (·.1) = none := by rfl) : DG G X (.Tuple es k pos) idx (gTupD n gs) := by
  obtain ⟨t, p, q⟩ := h
  refine ⟨_, pg_tup hc p hn hst, fun F σ H Hf ρ ρ' v d Q R r eg k => ?_⟩
  cases d <;> simp only [gTupD] at eg <;> try cases eg
  rename_i ds
  by_cases c : ds.length = n
  · rw [if_pos c] at eg
    obtain ⟨a, vs, rfl, ha, rl⟩ := rp_t r
    exact ⟨a, vs, rfl, hK ▸ sameT R.sub ha, by rw [rl.len]; exact c, q F σ H Hf ρ ρ' vs ds Q R rl eg k⟩
  · rw [if_neg c] at eg; cases eg
end
/-! ### statements -/
inductive Sr where
  | nx (ρ : PEnv) | rt (d : D) (ρ : PEnv) | rf (ds : List D) (ρ : PEnv) | bk (ρ : PEnv) | ct (ρ : PEnv) | exc (C f : Str) (d : D) (ρ : PEnv) | bad
abbrev SX := PEnv → Sr
def Sr.of {α : Type} (r : Rs α) (k : α → PEnv → Sr) : Sr := match r with
  | .ok a ρ => k a ρ
  | .exc C f d ρ => .exc C f d ρ
  | .bad => .bad
@[simp] theorem Sr.of_ok {α : Type} {a : α} {ρ : PEnv} {k : α → PEnv → Sr} : Sr.of (.ok a ρ) k = k a ρ := rfl
@[simp] theorem Sr.of_exc {α : Type} {C f : Str} {d : D} {ρ : PEnv} {k : α → PEnv → Sr} : Sr.of (.exc C f d ρ : Rs α) k = .exc C f d ρ := rfl
def Sr.seq (r : Sr) (k : SX) : Sr := match r with
  | .nx ρ => k ρ
  | r => r
@[simp] theorem Sr.seq_nx {ρ : PEnv} {k : SX} : (Sr.nx ρ).seq k = k ρ := rfl
@[simp] theorem Sr.seq_rt {d : D} {ρ : PEnv} {k : SX} : (Sr.rt d ρ).seq k = .rt d ρ := rfl
@[simp] theorem Sr.seq_rf {ds : List D} {ρ : PEnv} {k : SX} : (Sr.rf ds ρ).seq k = .rf ds ρ := rfl
@[simp] theorem Sr.seq_exc {C f : Str} {d : D} {ρ : PEnv} {k : SX} : (Sr.exc C f d ρ).seq k = .exc C f d ρ := rfl
@[simp] theorem Sr.seq_bk {ρ : PEnv} {k : SX} : (Sr.bk ρ).seq k = .bk ρ := rfl
@[simp] theorem Sr.seq_ct {ρ : PEnv} {k : SX} : (Sr.ct ρ).seq k = .ct ρ := rfl
def PostS (G : Gx) (F : Fr) (W : WX) (Hf : Hp) (En : L2.Ends) : Sr → Prop
  | .nx ρ' => ∀ σ' H' Hf', Rep G F σ' H' Hf' ρ' → Same Hf Hf' → En.nx σ' H'
  | .rt d ρ' => ∀ v σ' H' Hf', Rep G F σ' H' Hf' ρ' → Same Hf Hf' → Rp G Hf' v d → En.rt v H'
  | .rf ds ρ' => ∀ (p : Addr) (vs : List V) σ' H' Hf', Rep G F σ' H' Hf' ρ' → Same Hf Hf' → H' p = none → RpL G Hf' vs ds → En.rt (.ref p) (upd H' p (.lst vs))
  | .bk ρ' => ∀ σ' H' Hf', Rep G F σ' H' Hf' ρ' → Same Hf Hf' → En.bk σ' H'
  | .ct ρ' => ∀ σ' H' Hf', Rep G F σ' H' Hf' ρ' → Same Hf Hf' → En.ct σ' H'
  | .exc C f d ρ' => ∀ v dd σ' H' Hf', Rep G F σ' H' Hf' ρ' → Same Hf Hf' → Rp G Hf' v d → Hf' dd = some (.xd [(f, v)]) → W (.ref (G.cm C)) (some dd) σ' H'
  | .bad => False
section
variable {G : Gx} {F : Fr} {W : WX} {Hf Hf' : Hp} {En : L2.Ends}
theorem PostS.mono {r : Sr} (h : PostS G F W Hf En r) (s : Same Hf Hf') : PostS G F W Hf' En r := by
  cases r with
  | nx ρ => exact fun σ2 H2 Hf2 R t => h σ2 H2 Hf2 R (s.trans t)
  | rt d ρ => exact fun v σ2 H2 Hf2 R t => h v σ2 H2 Hf2 R (s.trans t)
  | rf ds ρ => exact fun p vs σ2 H2 Hf2 R t => h p vs σ2 H2 Hf2 R (s.trans t)
  | bk ρ => exact fun σ2 H2 Hf2 R t => h σ2 H2 Hf2 R (s.trans t)
  | ct ρ => exact fun σ2 H2 Hf2 R t => h σ2 H2 Hf2 R (s.trans t)
  | exc C f d ρ => exact fun v dd σ2 H2 Hf2 R t => h v dd σ2 H2 Hf2 R (s.trans t)
  | bad => exact h
theorem PostS.of {α : Type} {σ : L2.St} {r : Rs α} {k : α → PEnv → Sr} (h : PostS G F W Hf En (Sr.of r k)) : PostE G F W σ Hf (fun a _ Hf' ρ' => PostS G F W Hf' En (k a ρ')) r := by
  cases r with
  | ok a ρ' => exact fun H2 Hf2 R t => PostS.mono h t
  | exc C f d ρ' => exact fun v dd H2 Hf2 R t => h v dd σ H2 Hf2 R t
  | bad => exact h
end
def DS (G : Gx) (X : Cx) (W : WX) (st : Stmt) (f : SX) : Prop := ∃ t, PS X st t ∧ ∀ (F : Fr) (σ : L2.St) (H Hf : Hp) (ρ : PEnv) (En : L2.Ends), Rep G F σ H Hf ρ → PostS G F W Hf En (f ρ) → t En σ H
def DSs (G : Gx) (X : Cx) (W : WX) (sts : List Stmt) (f : SX) : Prop := ∃ t, PSs X sts t ∧ ∀ (F : Fr) (σ : L2.St) (H Hf : Hp) (ρ : PEnv) (En : L2.Ends), Rep G F σ H Hf ρ → PostS G F W Hf En (f ρ) → t En σ H
section
variable {G : Gx} {X : Cx} {W : WX} {e a : Expr} {es : List Expr} {st : Stmt} {rest b1 b2 : List Stmt} {f f1 f2 : SX} {fe : EX} {pos : Pos}
def sNil : SX := fun ρ => .nx ρ
def sSeq (f g : SX) : SX := fun ρ => (f ρ).seq g
theorem dss_nil : DSs G X W [] sNil := ⟨_, pss_nil, fun F σ H Hf ρ En R p => p σ H Hf R (Same.refl _)⟩
theorem dss_one (h : DS G X W st f) : DSs G X W [st] f := by
  obtain ⟨t, p, q⟩ := h
  exact ⟨t, pss_one p, q⟩
theorem PostS.seq {F : Fr} {Hf : Hp} {En : L2.Ends} {r : Sr} {k : SX} (h : PostS G F W Hf En (r.seq k)) : PostS G F W Hf { En with nx := fun σ' H' => ∃ Hf' ρ', Rep G F σ' H' Hf' ρ' ∧ PostS G F W Hf' En (k ρ') } r := by
  cases r with
  | nx ρ => exact fun σ2 H2 Hf2 R t => ⟨Hf2, ρ, R, PostS.mono h t⟩
  | rt d ρ => exact h
  | rf ds ρ => exact h
  | bk ρ => exact h
  | ct ρ => exact h
  | exc C f d ρ => exact h
  | bad => exact h
/-- what is behind a statement, however the statement ends: the rest is read once -/
theorem dss_cons (h1 : DS G X W st f1) (h2 : DSs G X W rest f2) : DSs G X W (st :: rest) (sSeq f1 f2) := by
  obtain ⟨t1, p1, q1⟩ := h1
  obtain ⟨t2, p2, q2⟩ := h2
  refine ⟨_, pss_mid p1 p2, fun F σ H Hf ρ En R p => ?_⟩
  refine ⟨fun σ' H' => ∃ Hf' ρ', Rep G F σ' H' Hf' ρ' ∧ PostS G F W Hf' En (f2 ρ'), q1 F σ H Hf ρ _ R (PostS.seq p), fun τ J ⟨Hf', ρ', R', q⟩ => q2 F τ J Hf' ρ' En R' q⟩
def sRet (fe : EX) : SX := fun ρ => Sr.of (fe ρ) fun d ρ1 => .rt d ρ1
theorem ds_ret (h : DE G X W e fe) : DS G X W (.Return (some e) pos) (sRet fe) := by
  obtain ⟨t, p1, q1⟩ := DE.elim h
  exact ⟨_, ps_ret p1, fun F σ H Hf ρ En R p => q1 F σ H Hf ρ _ R ((PostS.of p).imp fun d H1 Hf1 ρ1 _ R1 s1 p v r => p v σ H1 Hf1 R1 (Same.refl _) r)⟩
/-- a new list is given back -/
def sRetF (fl : PEnv → Rs (List D)) : SX := fun ρ => Sr.of (fl ρ) fun ds ρ1 => .rf ds ρ1
theorem ds_retF {fl : PEnv → Rs (List D)} (h : DF G X W e fl) : DS G X W (.Return (some e) pos) (sRetF fl) := by
  obtain ⟨t, p1, q1⟩ := h
  exact ⟨_, ps_ret p1, fun F σ H Hf ρ En R p => q1 F σ H Hf ρ _ R ((PostS.of p).imp fun ds H1 Hf1 ρ1 _ R1 s1 p a vs na r => p a vs σ H1 Hf1 R1 (Same.refl _) na r)⟩
def sRetN : SX := fun ρ => .rt .non ρ
theorem ds_retN : DS G X W (.Return none pos) sRetN := ⟨_, ps_retN, fun F σ H Hf ρ En R p => p .non σ H Hf R (Same.refl _) .non⟩
def sExpr (fe : EX) : SX := fun ρ => Sr.of (fe ρ) fun _ ρ1 => .nx ρ1
theorem ds_expr (h : DE G X W e fe) (hs : swapsWith e none pos.line X.env = pure false := by rfl) : DS G X W (.Expr e pos) (sExpr fe) := by
  obtain ⟨t, p1, q1⟩ := DE.elim h
  exact ⟨_, ps_expr p1 hs, fun F σ H Hf ρ En R p => q1 F σ H Hf ρ _ R ((PostS.of p).imp fun d H1 Hf1 ρ1 _ R1 s1 p v r => p σ H1 Hf1 R1 (Same.refl _))⟩
theorem ds_pass : DS G X W (.Pass pos) sNil := ⟨_, ps_pass, fun F σ H Hf ρ En R p => p σ H Hf R (Same.refl _)⟩
def sBk : SX := fun ρ => .bk ρ
def sCt : SX := fun ρ => .ct ρ
theorem ds_break : DS G X W (.Break pos) sBk := ⟨_, ps_break, fun F σ H Hf ρ En R p => p σ H Hf R (Same.refl _)⟩
theorem ds_cont : DS G X W (.Continue pos) sCt := ⟨_, ps_continue, fun F σ H Hf ρ En R p => p σ H Hf R (Same.refl _)⟩
/-- a statement that is never reached -/
def sBad : SX := fun _ => .bad
theorem ds_never : DS G X W st sBad := ⟨_, ps_never, fun F σ H Hf ρ En R p => p.elim⟩
def sSet (i : Nat) (fe : EX) : SX := fun ρ => Sr.of (fe ρ) fun d ρ1 => if notBor ρ1 i = true then .nx (ρ1.set i (.val d)) else .bad
theorem ds_set {i : Nat} {x : Str} {pos' : Pos} (hN : X.N.Nodup) (h : DE G X W e fe) (hi : X.N[i]? = some x := by rfl) (hx : Loc X.env.scope x := by first | exact .inl rfl | exact .inr rfl) (hs : swapsWith e (some (.Name x pos')) pos.line X.env = pure false := by rfl) (hf : X.fn x = true ∨ X.env.scope.names.lookup x = some .local := by first | exact .inl rfl | exact .inr rfl | assumption) :
    DS G X W (.Assign [.Name x pos'] e pos) (sSet i fe) := by
  obtain ⟨t, p1, q1⟩ := DE.elim h
  refine ⟨_, ps_set (i := i) hN hi hx p1 hs hf, fun F σ H Hf ρ En R p => q1 F σ H Hf ρ _ R ((PostS.of p).imp fun d H1 Hf1 ρ1 _ R1 s1 p v r => ?_)⟩
  split at p
  · exact p _ _ _ (R1.set i r) (Same.refl _)
  · exact p.elim
/-- x = a new list, which stays one's own -/
def sOwn (i : Nat) (fl : PEnv → Rs (List D)) : SX := fun ρ => Sr.of (fl ρ) fun ds ρ1 => if notBor ρ1 i = true then .nx (ρ1.set i (.own (.lst ds))) else .bad
theorem own_new {F : Fr} {σ : L2.St} {H Hf : Hp} {ρ : PEnv} (R : Rep G F σ H Hf ρ) (i : Nat) {p : Addr} {vs : List V} {ds : List D} (np : H p = none) (r : RpL G Hf vs ds) : Rep G F (σ.set i (some (.ref p))) (upd H p (.lst vs)) Hf (ρ.set i (.own (.lst ds))) := by
  refine (R.side np (.lst vs)).setOwn (ds := .lst ds) i upd_same (R.nf np) ?_ r fun j c es e1 e2 h => ?_
  · cases h : F.Pt p with
    | none => rfl
    | some o => have := (R.prot p o h).1; rw [np] at this; cases this
  · obtain ⟨q, m⟩ := (R.cell j c e1).mut e2
    have := m.at_
    rw [h] at this
    cases this
    exact m.ne np rfl
theorem ds_own {i : Nat} {x : Str} {pos' : Pos} {fl : PEnv → Rs (List D)} (hN : X.N.Nodup) (h : DF G X W e fl) (hi : X.N[i]? = some x := by rfl) (hx : Loc X.env.scope x := by first | exact .inl rfl | exact .inr rfl) (hs : swapsWith e (some (.Name x pos')) pos.line X.env = pure false := by rfl) (hf : X.fn x = true ∨ X.env.scope.names.lookup x = some .local := by first | exact .inl rfl | exact .inr rfl | assumption) :
    DS G X W (.Assign [.Name x pos'] e pos) (sOwn i fl) := by
  obtain ⟨t, p1, q1⟩ := h
  refine ⟨_, ps_set (i := i) hN hi hx p1 hs hf, fun F σ H Hf ρ En R p => q1 F σ H Hf ρ _ R ((PostS.of p).imp fun ds H1 Hf1 ρ1 _ R1 s1 p a vs na r => ?_)⟩
  split at p
  · exact p _ _ _ (own_new R1 i na r) (Same.refl _)
  · exact p.elim
/-- a target of several names -/
def sAsg (fe : EX) (g : TGf) : SX := fun ρ => Sr.of (fe ρ) fun d ρ1 => match g d ρ1 with
  | some ρ2 => .nx ρ2
  | none => .bad
theorem ds_asg {idx : List Nat} {g : TGf} (h : DE G X W e fe) (hg : DG G X a idx g) (hs : swapsWithSole [a] e pos.line X.env = pure false := by rfl) (hw : swappedStores [a] e X.env = pure none := by rfl)
    (h1 : (assignEach [a] X.env).map (·.2) = [assign a X.env] := by rfl) : DS G X W (.Assign [a] e pos) (sAsg fe g) := by
  obtain ⟨t, p1, q1⟩ := DE.elim h
  obtain ⟨t2, p2, q2⟩ := hg
  refine ⟨_, ps_asg p1 p2 hs hw h1, fun F σ H Hf ρ En R p => q1 F σ H Hf ρ _ R ((PostS.of p).imp fun d H1 Hf1 ρ1 _ R1 s1 p v r => ?_)⟩
  split at p
  · rename_i ρ2 hg
    exact q2 F σ H1 Hf1 ρ1 ρ2 v d _ R1 r hg fun σ' R' _ => p σ' H1 Hf1 R' (Same.refl _)
  · exact p.elim
/-- x, y = a, b -/
def sPar (i j : Nat) (os : List Opd) : SX := fun ρ => Sr.of (evs os ρ) fun as ρ1 => match vals? as with
  | some [d, d2] => if notBor ρ1 i = true ∧ notBor ρ1 j = true then .nx ((ρ1.set i (.val d)).set j (.val d2)) else .bad
  | _ => .bad
theorem ds_par {i j : Nat} {x y : Str} {c d : Expr} {os : List Opd} {px py pt : Pos} {kt k2 pt2} (hN : X.N.Nodup) (ha : DA G X W [c, d] os) (hi : X.N[i]? = some x := by rfl) (hj : X.N[j]? = some y := by rfl) (hij : i ≠ j := by decide)
    (hx : X.env.scope.names.lookup x = some .local := by rfl) (hy : X.env.scope.names.lookup y = some .local := by rfl)
    (hw : swappedStores [.Tuple [.Name x px, .Name y py] kt pt] (.Tuple [c, d] k2 pt2) X.env = pure (some [x, y]) := by rfl) (hc : X.calm = true := by rfl)
    (hs : swapsWithSole [.Tuple [.Name x px, .Name y py] kt pt] (.Tuple [c, d] k2 pt2) pos.line X.env = pure false := by rfl) : DS G X W (.Assign [.Tuple [.Name x px, .Name y py] kt pt] (.Tuple [c, d] k2 pt2) pos) (sPar i j os) := by
  obtain ⟨t, p1, q1⟩ := ha
  refine ⟨_, ps_par (i := i) (j := j) hc hN hi hj hij hx hy p1 hw hs, fun F σ H Hf ρ En R p => q1 F σ H Hf ρ _ R ((PostS.of p).imp fun as H1 Hf1 ρ1 _ R1 s1 p vs rs => ?_)⟩
  split at p
  · rename_i d1 d2 hv
    cases rs.vals hv with
    | cons r1 t =>
      cases t with
      | cons r2 t =>
        cases t
        split at p
        · exact ⟨_, _, rfl, p _ _ _ ((R1.set i r1).set j r2) (Same.refl _)⟩
        · exact p.elim
  · exact p.elim
def sIf (g : BX) (f1 f2 : SX) : SX := fun ρ => Sr.of (g ρ) fun b ρ1 => if b = true then f1 ρ1 else f2 ρ1
theorem ds_if {c : Expr} {g : BX} (hc : DT G X W c g) (ha : DSs G X W b1 f1) (hb : DSs G X W b2 f2) : DS G X W (.If c b1 b2 pos) (sIf g f1 f2) := by
  obtain ⟨t, p0, q0⟩ := hc
  obtain ⟨t1, p1, q1⟩ := ha
  obtain ⟨t2, p2, q2⟩ := hb
  refine ⟨_, ps_if p0 p1 p2, fun F σ H Hf ρ En R p => q0 F σ H Hf ρ _ R ((PostS.of p).imp fun b H1 Hf1 ρ1 _ R1 s1 p => ?_)⟩
  by_cases hk : b = true
  · rw [if_pos hk] at p ⊢
    exact q1 F σ H1 Hf1 ρ1 _ R1 p
  · rw [if_neg hk] at p ⊢
    exact q2 F σ H1 Hf1 ρ1 _ R1 p
/-- a list of one's own is frozen first -/
def frz (i : Nat) (ρ : PEnv) : Option PEnv := match ρ[i]? with
  | some (.own (.lst ds)) => some (ρ.set i (.val (.lst ds)))
  | some (.val _) => some ρ
  | _ => none
def sFrz (i : Nat) (f : SX) : SX := fun ρ => match frz i ρ with
  | some ρ1 => f ρ1
  | none => .bad
theorem frz_ok {F : Fr} {σ : L2.St} {H Hf : Hp} {ρ ρ1 : PEnv} {i : Nat} (R : Rep G F σ H Hf ρ) (h : frz i ρ = some ρ1) : ∃ Hf', Same Hf Hf' ∧ Rep G F σ H Hf' ρ1 := by
  unfold frz at h
  split at h
  · rename_i ds e
    cases h
    exact R.freeze e
  · cases h; exact ⟨Hf, Same.refl _, R⟩
  · cases h
theorem ds_frz {i : Nat} (h : DS G X W st f) : DS G X W st (sFrz i f) := by
  obtain ⟨t, p1, q1⟩ := h
  refine ⟨t, p1, fun F σ H Hf ρ En R p => ?_⟩
  unfold sFrz at p
  split at p
  · rename_i ρ1 e
    obtain ⟨Hf', s, R'⟩ := frz_ok R e
    exact q1 F σ H Hf' ρ1 En R' (p.mono s)
  · exact p.elim
/-! ### changing a list of one's own -/
def putAt (i : Nat) (g : List D → Option (List D)) (ρ : PEnv) : Option PEnv := (ρ[i]?).bind fun c => (c.lst?).bind fun ds => (g ds).map fun es => ρ.set i (c.put (.lst es))
theorem put_ok {F : Fr} {σ : L2.St} {H Hf : Hp} {ρ ρ1 : PEnv} {i : Nat} {g : List D → Option (List D)} (R : Rep G F σ H Hf ρ) (h : putAt i g ρ = some ρ1) :
    ∃ p vs ds es, σ[i]? = some (some (.ref p)) ∧ H p = some (.lst vs) ∧ RpL G Hf vs ds ∧ g ds = some es ∧ ∀ ws, RpL G Hf ws es → Rep G F σ (upd H p (.lst ws)) Hf ρ1 := by
  unfold putAt at h
  obtain ⟨c, h1, h⟩ := Option.bind_eq_some_iff.mp h
  obtain ⟨ds, h2, h⟩ := Option.bind_eq_some_iff.mp h
  obtain ⟨es, h3, rfl⟩ := Option.map_eq_some_iff.mp h
  obtain ⟨p, m⟩ := (R.cell i c h1).mut (Cell.of_lst h2)
  obtain ⟨o0, hp, r0⟩ := m.ls
  obtain ⟨vs, rfl, r⟩ := r0.lst
  exact ⟨p, vs, ds, es, m.at_, hp, r, h3, fun ws rw => R.write (es := .lst es) (ws := .lst ws) h1 (Cell.of_lst h2) m.at_ rw⟩
def appG (d : D) (ds : List D) : Option (List D) := if ds.length < sizeLine then some (ds ++ [d]) else none
def sApp (i : Nat) (fe : EX) : SX := fun ρ => Sr.of (fe ρ) fun d ρ1 => match putAt i (appG d) ρ1 with
  | some ρ2 => .nx ρ2
  | none => .bad
theorem mut_at {F : Fr} {σ : L2.St} {H Hf : Hp} {ρ : PEnv} {i : Nat} (R : Rep G F σ H Hf ρ) (h : ((ρ[i]?).bind Cell.lst?).isSome = true) : ∃ p vs, σ[i]? = some (some (.ref p)) ∧ H p = some (.lst vs) := by
  obtain ⟨ds, h⟩ := Option.isSome_iff_exists.mp h
  obtain ⟨c, h1, h2⟩ := Option.bind_eq_some_iff.mp h
  obtain ⟨p, m⟩ := (R.cell i c h1).mut (Cell.of_lst h2)
  obtain ⟨o0, hp, r0⟩ := m.ls
  obtain ⟨vs, rfl, _⟩ := r0.lst
  exact ⟨p, vs, m.at_, hp⟩
def sMut (i : Nat) (f : SX) : SX := fun ρ => if ((ρ[i]?).bind Cell.lst?).isSome = true then f ρ else .bad
theorem ds_app {i : Nat} {x : Str} {p1 apos cpos : Pos} (h : DE G X W e fe) (hN : X.N[i]? = some x := by rfl) (hv : Vis X.env.scope x := by first | exact .inl rfl | exact .inr (.inl rfl) | exact .inr (.inr rfl)) (hd : (x == ("__debug__" : Str)) = false := by decide) (hcd : (x == ("__classdict__" : Str)) = false := by decide)
    (hs2 : swapsWith (.Call (.Attribute (.Name x p1) "append" apos) [e] [] cpos) none pos.line X.env = pure false := by rfl)
    (hbase : attributeBase (.Name x p1) "append" X.env (eval (.Name x p1) X.env) = eval (.Name x p1) X.env := by rfl)
    (hfew : ((backTo cpos (starEach [e] X.env)).all (fun x => !x.1) && (backToKw cpos (keywordEach [] X.env)).all (fun x => x.1.isSome)
      && decide ([e].length + ([] : List Keyword).length + (if ([] : List Keyword).isEmpty then 0 else 1) < 30)) = true := by rfl)
    (hline : (apos.endLine == cpos.line) = true := by rfl) (hs : starEach [e] X.env = (false, eval e X.env) :: starEach [] X.env := by rfl) (hplain : (backTo cpos (starEach [] X.env)).any (·.1) = false := by rfl) :
    DS G X W (.Expr (.Call (.Attribute (.Name x p1) "append" apos) [e] [] cpos) pos) (sMut i (sApp i fe)) := by
  obtain ⟨t, p1, q1⟩ := DE.elim h
  refine ⟨_, ps_expr (pe_bm PySem.F.plainAttrs_list PySem.F.slot_list_append PySem.F.type_list_append mt_append (pe_var (i := i) hN hv hd hcd) (pa_cons p1 pa_nil hs) hbase hfew hline hs hplain) hs2, fun F σ H Hf ρ En R p => ?_⟩
  unfold sMut at p
  split at p
  · rename_i hm
    obtain ⟨a, ws, h1, h2⟩ := mut_at R hm
    refine ⟨.ref a, h1, .inl ⟨rfl, ws, SqL.hp h2⟩, q1 F σ H Hf ρ _ R ((PostS.of p).imp fun d H1 Hf1 ρ1 _ R1 s1 p v r => ?_)⟩
    split at p
    · rename_i ρ2 e2
      obtain ⟨b, vs, ds, es, h3, h4, h5, h6, h7⟩ := put_ok R1 e2
      rw [h1] at h3
      cases h3
      unfold appG at h6
      obtain ⟨c, rfl⟩ := ite_some' h6
      exact ⟨a, vs, v, rfl, rfl, h4, by rw [h5.len]; exact c, p σ _ Hf1 (h7 _ (h5.app (.cons r .nil))) (Same.refl _)⟩
    · exact p.elim
  · exact p.elim
def setG (k : Int) (d : D) (ds : List D) : Option (List D) := (ixN ds.length k).map fun j => ds.set j d
/-- x[k] = v -/
def sPut (i : Nat) (fe fk : EX) : SX := fun ρ => Sr.of (fe ρ) fun d ρ1 => sMut i (fun ρ1 => Sr.of (fk ρ1) fun k ρ2 => match k with
  | .int k => (match putAt i (setG k d) ρ2 with
    | some ρ3 => .nx ρ3
    | none => .bad)
  | _ => .bad) ρ1
theorem ds_put {i : Nat} {x : Str} {k : Expr} {fk : EX} {p1 p2 : Pos} (h : DE G X W e fe) (hk : DE G X W k fk) (hN : X.N[i]? = some x := by rfl) (hv : Vis X.env.scope x := by first | exact .inl rfl | exact .inr (.inl rfl) | exact .inr (.inr rfl)) (hd : (x == ("__debug__" : Str)) = false := by decide) (hcd : (x == ("__classdict__" : Str)) = false := by decide)
    (ha : ∀ v, assign (.Subscript (.Name x p1) k p2) X.env v = (do
      let ov ← holding [v] (eval (.Name x p1) X.env)
      let iv ← holding [v, ov] (eval k X.env)
      standAt p2
      holding [v, ov, iv] (setItem ov iv v)
      release [v, ov, iv] []) := by intro _; rfl)
    (hs : swapsWithSole [.Subscript (.Name x p1) k p2] e pos.line X.env = pure false := by rfl) (hw : swappedStores [.Subscript (.Name x p1) k p2] e X.env = pure none := by rfl)
    (h1 : (assignEach [.Subscript (.Name x p1) k p2] X.env).map (·.2) = [assign (.Subscript (.Name x p1) k p2) X.env] := by rfl) : DS G X W (.Assign [.Subscript (.Name x p1) k p2] e pos) (sPut i fe fk) := by
  obtain ⟨t1, p1, q1⟩ := DE.elim h
  obtain ⟨t2, p2, q2⟩ := DE.elim hk
  refine ⟨_, ps_asg p1 (pg_sub (pe_var (i := i) hN hv hd hcd) p2 set_list ha) hs hw h1, fun F σ H Hf ρ En R p => q1 F σ H Hf ρ _ R ((PostS.of p).imp fun d H1 Hf1 ρ1 _ R1 s1 p v r => ?_)⟩
  unfold sMut at p
  split at p
  · rename_i hm
    obtain ⟨a, ws, h1, h2⟩ := mut_at R1 hm
    refine ⟨.ref a, h1, q2 F σ H1 Hf1 ρ1 _ R1 ((PostS.of p).imp fun kd H2 Hf2 ρ2 _ R2 s2 p u ru => ?_)⟩
    cases kd with
    | int k =>
      obtain rfl := rp_i ru
      change PostS G F W Hf2 En (match putAt i (setG k d) ρ2 with
        | some ρ3 => .nx ρ3
        | none => .bad) at p
      split at p
      · rename_i ρ3 e3
        obtain ⟨b, vs, ds, es, h3, h4, h5, h6, h7⟩ := put_ok R2 e3
        rw [h1] at h3
        cases h3
        obtain ⟨j, hj, rfl⟩ := Option.map_eq_some_iff.mp h6
        exact ⟨a, vs, k, j, rfl, rfl, h4, by rw [h5.len]; exact hj, p σ _ Hf2 (h7 _ (RpL.set (r.mono s2) j h5)) (Same.refl _)⟩
      · exact p.elim
    | _ => exact p.elim
  · exact p.elim
end
end Spk

namespace Spk
open PySem PySem.Spec PyProof.Rows L2
/-! ### what is walked -/
def WalkD (G : Gx) (J : It) (ds : List D) (Hf : Hp) : Prop := ∀ (F : Fr) (σ : L2.St) (H Hf' : Hp) (ρ : PEnv) (i : Nat), Rep G F σ H Hf' ρ → Same Hf Hf' →
  (i < ds.length → J.go i H) ∧ J.stop ds.length H ∧ ∀ x H2, i < ds.length → J.yld i H x H2 → ∃ Hf2 d, Rep G F σ H2 Hf2 ρ ∧ Same Hf' Hf2 ∧ ds[i]? = some d ∧ Rp G Hf2 x d
def DI (G : Gx) (X : Cx) (W : WX) (tg e : Expr) (it : PEnv → Rs (List D)) : Prop := ∃ wi, PI X tg e wi ∧ ∀ (F : Fr) (σ : L2.St) (H Hf : Hp) (ρ : PEnv) (R : It → Hp → Prop), Rep G F σ H Hf ρ →
  PostE G F W σ Hf (fun ds H' Hf' _ => ∀ J, WalkD G J ds Hf' → R J H') (it ρ) → wi σ H R
def seqD : D → Option (List D)
  | .lst ds => some ds
  | .tup ds => some ds
  | .scr ns => some (ns.map D.int)
  | _ => none
section
variable {G : Gx} {X : Cx} {W : WX} {e e2 tg : Expr} {es : List Expr} {pos p : Pos}
theorem pi_or {w1 w2 : TI} (h1 : PI X tg e w1) (h2 : PI X tg e w2) : PI X tg e (fun σ H R => w1 σ H R ∨ w2 σ H R) := by
  refine ⟨fun pins s σ H R I h => ?_⟩
  rcases h with h | h
  · exact h1.run pins s σ H R I h
  · exact h2.run pins s σ H R I h
def fSeq (f : EX) : PEnv → Rs (List D) := fun ρ => (f ρ).bind fun d ρ1 => Rs.lift (seqD d) ρ1
theorem walkD_at {J : It} {n : Nat} {Hf : Hp} {vs : List V} {ds : List D} {Gd : Hp → Prop} (w : Walk J n Gd (YAt vs)) (hn : n = ds.length) (r : RpL G Hf vs ds) (hg : ∀ F σ H Hf' ρ, Rep G F σ H Hf' ρ → Same Hf Hf' → Gd H) : WalkD G J ds Hf := by
  subst hn
  intro F σ H Hf' ρ i R s
  have g := hg F σ H Hf' ρ R s
  refine ⟨fun hi => w.goes i H hi g, w.stops H g, fun x H2 hi y => ?_⟩
  obtain ⟨rfl, hx⟩ := w.yields i H x H2 hi g y
  obtain ⟨d, h1, h2⟩ := r.get hx
  exact ⟨Hf', d, R, Same.refl _, h1, h2.mono s⟩
theorem di_seq {f : EX} (h : DE G X W e f) (hK : X.K = G.K := by rfl) : DI G X W tg e (fSeq f) := by
  obtain ⟨t, p1, q1⟩ := DE.elim h
  refine ⟨_, pi_or (pi_list p1) (pi_tup p1), fun F σ H Hf ρ R Rr p => ?_⟩
  have p := PostE.bind p
  cases hf : f ρ with
  | bad => rw [hf] at p; exact p.elim
  | exc C f' d ρ' =>
    rw [hf] at p
    exact .inl (q1 F σ H Hf ρ _ Rr (by rw [hf]; exact p))
  | ok d ρ' =>
    rw [hf] at p
    cases hd : seqD d with
    | none =>
      have pp : ∀ H' Hf', Rep G F σ H' Hf' ρ' → Same Hf Hf' → PostE G F W σ Hf' _ (Rs.lift (seqD d) ρ') := p
      rw [hd] at pp
      exact .inl (q1 F σ H Hf ρ _ Rr (by rw [hf]; exact fun H1 Hf1 R1 s1 v r => (pp H1 Hf1 R1 s1).elim))
    | some ds =>
      have pp : ∀ H' Hf', Rep G F σ H' Hf' ρ' → Same Hf Hf' → PostE G F W σ Hf' _ (Rs.lift (seqD d) ρ') := p
      rw [hd] at pp
      cases d <;> simp only [seqD] at hd <;> cases hd
      · refine .inl (q1 F σ H Hf ρ _ Rr ?_)
        rw [hf]
        intro H1 Hf1 R1 s1 v r
        cases r with
        | lst q rl =>
          refine ⟨_, rfl, ⟨_, SqL.hp (R1.sub _ _ q)⟩, pp H1 Hf1 R1 s1 H1 Hf1 R1 (Same.refl _) _ ?_⟩
          rw [hK]
          exact walkD_at walk_list rl.len rl fun F σ H Hf' ρ R s => SqL.hp (R.sub _ _ (s _ _ q))
      · refine .inr (q1 F σ H Hf ρ _ Rr ?_)
        rw [hf]
        intro H1 Hf1 R1 s1 v r
        obtain ⟨a, vs, rfl, q, rl⟩ := rp_t r
        refine ⟨_, rfl, ⟨_, hK ▸ sameT R1.sub q⟩, pp H1 Hf1 R1 s1 H1 Hf1 R1 (Same.refl _) _ ?_⟩
        rw [hK]
        exact walkD_at walk_tup rl.len rl fun F σ H Hf' ρ R s => sameT R.sub (sameT s q)
      · refine .inl (q1 F σ H Hf ρ _ Rr ?_)
        rw [hf]
        intro H1 Hf1 R1 s1 v r
        cases r with
        | scr q =>
          refine ⟨_, rfl, ⟨_, hK ▸ R1.sub.seq q⟩, pp H1 Hf1 R1 s1 H1 Hf1 R1 (Same.refl _) _ ?_⟩
          rw [hK]
          exact walkD_at walk_list (by simp) (RpL.ints _) fun F σ H Hf' ρ R s => R.sub.seq (s.seq q)
/-- range -/
def rngD (lo : Int) (n : Nat) : List D := (List.range n).map fun i : Nat => D.int (lo + (i : Int))
theorem walkD_rng {lo : Int} {n : Nat} {Hf : Hp} : WalkD G (Itr lo n) (rngD lo n) Hf := by
  intro F σ H Hf' ρ i R s
  have ln : (rngD lo n).length = n := by simp [rngD]
  rw [ln]
  refine ⟨fun hi => hi, Nat.le_refl _, fun x H2 hi y => ?_⟩
  obtain ⟨rfl, rfl⟩ := y
  exact ⟨Hf', .int (lo + (i : Int)), R, Same.refl _, by simp [rngD, hi], .int _⟩
def fRng1 (f : EX) : PEnv → Rs (List D) := fun ρ => (f ρ).bind fun d ρ1 => match d with
  | .int j => if -(2 ^ 62) ≤ j ∧ j < 2 ^ 62 then .ok (rngD 0 j.toNat) ρ1 else .bad
  | _ => .bad
theorem di_rng1 {f : EX} (h : DE G X W e f) (hg : Gl X "range") (hm : X.mg "range" = none) (hs : starEach [e] X.env = [(false, eval e X.env)] := by rfl) : DI G X W tg (.Call (.Name "range" p) [e] [] pos) (fRng1 f) := by
  obtain ⟨t, p1, q1⟩ := DE.elim h
  refine ⟨_, pi_range1 hg hm (pa_cons p1 pa_nil hs) hs, fun F σ H Hf ρ R Rr p => ?_⟩
  refine q1 F σ H Hf ρ _ Rr ((PostE.bind p).imp fun d H1 Hf1 ρ1 _ R1 s1 p v r => ?_)
  cases d with
  | int j =>
    obtain rfl := rp_i r
    change PostE G F W σ Hf1 _ (if -(2 ^ 62) ≤ j ∧ j < 2 ^ 62 then Rs.ok (rngD 0 j.toNat) ρ1 else Rs.bad) at p
    by_cases c : -(2 ^ 62) ≤ j ∧ j < 2 ^ 62
    · rw [if_pos c] at p
      exact ⟨j, rfl, c.1, c.2, p H1 Hf1 R1 (Same.refl _) _ walkD_rng⟩
    · rw [if_neg c] at p; exact p.elim
  | _ => exact p.elim
def fRng2 (f f2 : EX) : PEnv → Rs (List D) := fun ρ => (f ρ).bind fun d ρ1 => (f2 ρ1).bind fun d2 ρ2 => match d, d2 with
  | .int i, .int j => if -(2 ^ 62) ≤ i ∧ i < 2 ^ 62 ∧ -(2 ^ 62) ≤ j ∧ j < 2 ^ 62 then .ok (rngD i (j - i).toNat) ρ2 else .bad
  | _, _ => .bad
theorem di_rng2 {f f2 : EX} (h : DE G X W e f) (h2 : DE G X W e2 f2) (hg : Gl X "range") (hm : X.mg "range" = none) (hs : starEach [e, e2] X.env = [(false, eval e X.env), (false, eval e2 X.env)] := by rfl) (hs2 : starEach [e2] X.env = [(false, eval e2 X.env)] := by rfl) : DI G X W tg (.Call (.Name "range" p) [e, e2] [] pos) (fRng2 f f2) := by
  obtain ⟨t, p1, q1⟩ := DE.elim h
  obtain ⟨t2, p2, q2⟩ := DE.elim h2
  refine ⟨_, pi_range2 hg hm (pa_cons p1 (pa_cons p2 pa_nil hs2) (by rw [hs, hs2])) hs hs2, fun F σ H Hf ρ R Rr p => ?_⟩
  refine q1 F σ H Hf ρ _ Rr ((PostE.bind p).imp fun d H1 Hf1 ρ1 _ R1 s1 p v r => ?_)
  refine q2 F σ H1 Hf1 ρ1 _ R1 ((PostE.bind p).imp fun d2 H2 Hf2 ρ2 _ R2 s2 p w r2 => ?_)
  cases d with
  | int i =>
    cases d2 with
    | int j =>
      obtain rfl := rp_i r
      obtain rfl := rp_i r2
      change PostE G F W σ Hf2 _ (if -(2 ^ 62) ≤ i ∧ i < 2 ^ 62 ∧ -(2 ^ 62) ≤ j ∧ j < 2 ^ 62 then Rs.ok (rngD i (j - i).toNat) ρ2 else Rs.bad) at p
      by_cases c : -(2 ^ 62) ≤ i ∧ i < 2 ^ 62 ∧ -(2 ^ 62) ≤ j ∧ j < 2 ^ 62
      · rw [if_pos c] at p
        exact ⟨i, j, rfl, c, p H2 Hf2 R2 (Same.refl _) _ walkD_rng⟩
      · rw [if_neg c] at p; exact p.elim
    | _ => exact p.elim
  | _ => exact p.elim
/-- pairs that are made anew at each turn -/
theorem walkD_pair {J : It} {n : Nat} {Hf : Hp} {fx fy : Nat → Option V} {ds : List D} {Gd : Hp → Prop} (w : Walk J n Gd (YPair fx fy)) (hn : n = ds.length) (hg : ∀ F σ H Hf' ρ, Rep G F σ H Hf' ρ → Same Hf Hf' → Gd H)
    (hp : ∀ i x y, fx i = some x → fy i = some y → ∃ d1 d2, ds[i]? = some (.tup [d1, d2]) ∧ Rp G Hf x d1 ∧ Rp G Hf y d2) : WalkD G J ds Hf := by
  subst hn
  intro F σ H Hf' ρ i R s
  have g := hg F σ H Hf' ρ R s
  refine ⟨fun hi => w.goes i H hi g, w.stops H g, fun x H2 hi y => ?_⟩
  obtain ⟨T, x1, x2, rfl, nT, rfl, h1, h2⟩ := w.yields i H x H2 hi g y
  obtain ⟨d1, d2, h3, r1, r2⟩ := hp i x1 x2 h1 h2
  obtain ⟨R', s', r'⟩ := R.laidT nT (.cons (r1.mono s) (.cons (r2.mono s) .nil))
  exact ⟨_, _, R', s', h3, r'⟩
def enuD (ds : List D) : List D := ds.zipIdx.map fun p => .tup [.int (p.2 : Nat), p.1]
def fEnu (f : EX) : PEnv → Rs (List D) := fun ρ => (f ρ).bind fun d ρ1 => Rs.lift ((seqD d).map enuD) ρ1
theorem enuD_len (ds : List D) : (enuD ds).length = ds.length := by simp [enuD]
theorem enuD_at {ds : List D} {i : Nat} {d : D} (h : ds[i]? = some d) : (enuD ds)[i]? = some (.tup [.int (i : Nat), d]) := by
  simp [enuD, List.getElem?_zipIdx, h]
/-- enumerate of a tuple -/
def iEnT (K : PySem.W.Frag) (ta : TA) : TI := fun σ H R => ta σ H fun vs H1 => ∃ a xs, vs = [.ref a] ∧ SqT K H1 a xs ∧ R (ItE K a) H1
theorem pi_enT {ta : TA} {tpos : Pos} {elts : List Expr} {kk : Nat} (hg : Gl X "enumerate") (hm : X.mg "enumerate" = none) (ha : PA X [e] ta) (hs : starEach [e] X.env = [(false, eval e X.env)] := by rfl) :
    PI X (.Tuple elts kk tpos) (.Call (.Name "enumerate" p) [e] [] pos) (iEnT X.K ta) := by
  refine ⟨fun pins s σ H R I h => Call_ (ld_blt I hg hm boot_enumerate (PyProof.Rows.callWith_type1 (thn (ha.run pos pins s σ H _ I h) fun us s1 hh => ?_) hs rfl))⟩
  obtain ⟨vs, H1, I1, r1, a, xs, rfl, hq, q⟩ := hh
  obtain ⟨u, rfl, ru⟩ := vals1 r1
  obtain rfl : u = Value.ref a := ru
  have fp : ∀ b ∈ [s1.heap.objs.size + 1, s1.heap.objs.size], FpOk X pins H1 b := fun b hb => by
    have hle : s1.heap.objs.size ≤ b := by rcases mem2 hb with rfl | rfl <;> omega
    exact I1.fpOk hle (I1.hok.fresh hle)
  obtain ⟨its, rv, p', hz⟩ := I1.tuple hq
  have hT : s1.heap.IsTuple a its.toArray := p'
  have hlt : a < s1.heap.objs.size := by obtain ⟨_, z, _⟩ := hT; exact Heap.lt_size z
  refine enumT_call hT fun g he hit hsz hk => wpAny_pyIter_enum he ?_
  exact ⟨s1.heap.objs.size + 1, [s1.heap.objs.size + 1, s1.heap.objs.size], _, _, H1, rfl, I1.kept (t' := s1.toks) hk, turnE a _ _ (Nat.ne_of_lt hlt) (Nat.ne_of_gt (Nat.lt_succ_of_lt hlt)), ⟨⟨.none, he⟩, hit, Nat.succ_ne_self _⟩, fp, q⟩
theorem di_enum {f : EX} {tpos : Pos} {elts : List Expr} {kk : Nat} (h : DE G X W e f) (hg : Gl X "enumerate") (hm : X.mg "enumerate" = none) (hK : X.K = G.K := by rfl) (hs : starEach [e] X.env = [(false, eval e X.env)] := by rfl) :
    DI G X W (.Tuple elts kk tpos) (.Call (.Name "enumerate" p) [e] [] pos) (fEnu f) := by
  obtain ⟨t, p1, q1⟩ := DE.elim h
  have pa := pa_cons p1 pa_nil hs
  refine ⟨_, pi_or (pi_enum hg hm pa hs) (pi_enT hg hm pa hs), fun F σ H Hf ρ R Rr p => ?_⟩
  have p := PostE.bind p
  cases hf : f ρ with
  | bad => rw [hf] at p; exact p.elim
  | exc C f' d ρ' =>
    rw [hf] at p
    exact .inl (q1 F σ H Hf ρ _ Rr (by rw [hf]; exact p))
  | ok d ρ' =>
    rw [hf] at p
    have pp : ∀ H' Hf', Rep G F σ H' Hf' ρ' → Same Hf Hf' → PostE G F W σ Hf' _ (Rs.lift ((seqD d).map enuD) ρ') := p
    cases hd : seqD d with
    | none =>
      rw [hd] at pp
      exact .inl (q1 F σ H Hf ρ _ Rr (by rw [hf]; exact fun H1 Hf1 R1 s1 v r => (pp H1 Hf1 R1 s1).elim))
    | some ds =>
      rw [hd] at pp
      have wk : ∀ {J : It} {Hf1 : Hp} {vs : List V} {Gd : Hp → Prop}, Walk J vs.length Gd (YPair (fun i => some (.int (i : Nat))) (fun i => vs[i]?)) → RpL G Hf1 vs ds → (∀ F σ H Hf' ρ, Rep G F σ H Hf' ρ → Same Hf1 Hf' → Gd H) → WalkD G J (enuD ds) Hf1 := fun w rl hg =>
        walkD_pair w (by rw [enuD_len, rl.len]) hg fun i x y h1 h2 => by
          cases h1
          obtain ⟨d, h3, r3⟩ := rl.get h2
          exact ⟨_, d, enuD_at h3, .int _, r3⟩
      cases d <;> simp only [seqD] at hd <;> cases hd
      · refine .inl (q1 F σ H Hf ρ _ Rr ?_)
        rw [hf]
        intro H1 Hf1 R1 s1 v r
        cases r with
        | lst q rl =>
          refine ⟨_, _, rfl, SqL.hp (R1.sub _ _ q), pp H1 Hf1 R1 s1 H1 Hf1 R1 (Same.refl _) _ ?_⟩
          rw [hK]
          exact wk walk_enum rl fun F σ H Hf' ρ R s => SqL.hp (R.sub _ _ (s _ _ q))
      · refine .inr (q1 F σ H Hf ρ _ Rr ?_)
        rw [hf]
        intro H1 Hf1 R1 s1 v r
        obtain ⟨a, vs, rfl, q, rl⟩ := rp_t r
        refine ⟨_, _, rfl, hK ▸ sameT R1.sub q, pp H1 Hf1 R1 s1 H1 Hf1 R1 (Same.refl _) _ ?_⟩
        rw [hK]
        exact wk walkE rl fun F σ H Hf' ρ R s => sameT R.sub (sameT s q)
      · refine .inl (q1 F σ H Hf ρ _ Rr ?_)
        rw [hf]
        intro H1 Hf1 R1 s1 v r
        cases r with
        | scr q =>
          refine ⟨_, _, rfl, hK ▸ R1.sub.seq q, pp H1 Hf1 R1 s1 H1 Hf1 R1 (Same.refl _) _ ?_⟩
          rw [hK]
          exact wk walk_enum (RpL.ints _) fun F σ H Hf' ρ R s => R.sub.seq (s.seq q)
/-- zip of two lists -/
def zipD (xs ys : List D) : List D := List.zipWith (fun x y => .tup [x, y]) xs ys
def fZip (f f2 : EX) : PEnv → Rs (List D) := fun ρ => (f ρ).bind fun d ρ1 => (f2 ρ1).bind fun d2 ρ2 => match d, d2 with
  | .lst xs, .lst ys => .ok (zipD xs ys) ρ2
  | _, _ => .bad
theorem di_zip {f f2 : EX} {tpos : Pos} {elts : List Expr} {kk : Nat} (h : DE G X W e f) (h2 : DE G X W e2 f2) (hg : Gl X "zip") (hm : X.mg "zip" = none) (hK : X.K = G.K := by rfl) (hs0 : starEach [e2] X.env = [(false, eval e2 X.env)] := by rfl)
    (hs : starEach [e, e2] X.env = (false, eval e X.env) :: starEach [e2] X.env := by rfl) (hpl : (backTo pos (starEach [e2] X.env)).any (·.1) = false := by rfl) :
    DI G X W (.Tuple elts kk tpos) (.Call (.Name "zip" p) [e, e2] [] pos) (fZip f f2) := by
  obtain ⟨t, p1, q1⟩ := DE.elim h
  obtain ⟨t2, p2, q2⟩ := DE.elim h2
  refine ⟨_, pi_zip hg hm (pa_cons p1 (pa_cons p2 pa_nil hs0) hs) hs hpl, fun F σ H Hf ρ R Rr p => ?_⟩
  refine q1 F σ H Hf ρ _ Rr ((PostE.bind p).imp fun d H1 Hf1 ρ1 _ R1 s1 p v r => ?_)
  refine q2 F σ H1 Hf1 ρ1 _ R1 ((PostE.bind p).imp fun d2 H2 Hf2 ρ2 _ R2 s2 p w r2 => ?_)
  cases d with
  | lst xs =>
    cases d2 with
    | lst ys =>
      cases r with
      | lst a1 l1 =>
        cases r2 with
        | lst a2 l2 =>
          have l1 := l1.mono s2
          have a1 := s2 _ _ a1
          refine ⟨_, _, _, _, rfl, SqL.hp (R2.sub _ _ a1), SqL.hp (R2.sub _ _ a2), p H2 Hf2 R2 (Same.refl _) _ ?_⟩
          rw [hK]
          refine walkD_pair (walk_zip rfl) (by simp [zipD, l1.len, l2.len]) (fun F σ H Hf' ρ R s => ⟨SqL.hp (R.sub _ _ (s _ _ a1)), SqL.hp (R.sub _ _ (s _ _ a2))⟩) fun i x y h1 h2 => ?_
          obtain ⟨d1, h3, r3⟩ := l1.get h1
          obtain ⟨d2, h4, r4⟩ := l2.get h2
          exact ⟨d1, d2, by simp [zipD, List.getElem?_zipWith, h3, h4], r3, r4⟩
    | _ => exact p.elim
  | _ => exact p.elim
/-! ### for -/
def loopD (g : TGf) (body : SX) : List D → PEnv → Sr
  | [], ρ => .nx ρ
  | d :: ds, ρ => match g d ρ with
    | none => .bad
    | some ρ1 => match body ρ1 with
      | .nx ρ2 => loopD g body ds ρ2
      | .ct ρ2 => loopD g body ds ρ2
      | .bk ρ2 => .nx ρ2
      | r => r
def sFor (it : PEnv → Rs (List D)) (g : TGf) (body : SX) : SX := fun ρ => Sr.of (it ρ) fun ds ρ1 => loopD g body ds ρ1
theorem ds_for {body : List Stmt} {idx : List Nat} {it : PEnv → Rs (List D)} {g : TGf} {f : SX} (hi : DI G X W tg e it) (hg : DG G X tg idx g) (hb : DSs G X W body f) (hp : PassesOwn (model X.prog X.w) X.A X.env X.xe) (hc : X.calm = true := by rfl)
    (hs : ∀ x, foldedSetIterable e X.env x = pure x := by intro _; rfl) : DS G X W (.For tg e body [] pos) (sFor it g f) := by
  obtain ⟨wi, p1, q1⟩ := hi
  obtain ⟨t2, p2, q2⟩ := hg
  obtain ⟨t3, p3, q3⟩ := hb
  refine ⟨_, ps_for hp hc p1 p2 p3 hs, fun F σ H Hf ρ En R p => ?_⟩
  refine q1 F σ H Hf ρ _ R ((PostS.of p).imp fun ds H1 Hf1 ρ1 _ R1 s1 p J w => ?_)
  refine ⟨fun i m σ H => m = ds.length - i ∧ i ≤ ds.length ∧ ∃ Hf' ρ', Same Hf1 Hf' ∧ Rep G F σ H Hf' ρ' ∧ PostS G F W Hf' En (loopD g f (ds.drop i) ρ'), ⟨_, rfl, Nat.zero_le _, Hf1, ρ1, Same.refl _, R1, p⟩, ?_⟩
  rintro i m σ2 H2 ⟨rfl, hi, Hf2, ρ2, s2, R2, p⟩
  obtain ⟨w1, w2, w3⟩ := w F σ2 H2 Hf2 ρ2 i R2 s2
  by_cases hlt : i < ds.length
  · refine .inr ⟨w1 hlt, fun σ H => i + 1 ≤ ds.length ∧ ∃ Hf' ρ', Same Hf1 Hf' ∧ Rep G F σ H Hf' ρ' ∧ PostS G F W Hf' En (loopD g f (ds.drop (i + 1)) ρ'), fun σ' H' h => ⟨ds.length - (i + 1), by omega, rfl, h⟩, fun x H3 y => ?_⟩
    obtain ⟨Hf3, d, R3, s3, hd, r⟩ := w3 x H3 hlt y
    have e1 : ds.drop i = d :: ds.drop (i + 1) := by
      rw [List.drop_eq_getElem_cons hlt]
      rw [List.getElem?_eq_getElem hlt] at hd
      rw [Option.some.inj hd]
    rw [e1] at p
    unfold loopD at p
    cases hgd : g d ρ2 with
    | none => rw [hgd] at p; exact p.elim
    | some ρ3 =>
      rw [hgd] at p
      refine q2 F σ2 H3 Hf3 ρ2 ρ3 x d _ R3 r hgd fun σ3 R4 _ => ?_
      refine q3 F σ3 H3 Hf3 ρ3 _ R4 ?_
      have p := p.mono s3
      change PostS G F W Hf3 En (match f ρ3 with
        | .nx ρ2 => loopD g f (ds.drop (i + 1)) ρ2
        | .ct ρ2 => loopD g f (ds.drop (i + 1)) ρ2
        | .bk ρ2 => .nx ρ2
        | r => r) at p
      cases hr : f ρ3 with
      | nx ρ4 => rw [hr] at p; exact fun σ5 H5 Hf5 R5 s5 => ⟨hlt, Hf5, ρ4, s2.trans (s3.trans s5), R5, p.mono s5⟩
      | ct ρ4 => rw [hr] at p; exact fun σ5 H5 Hf5 R5 s5 => ⟨hlt, Hf5, ρ4, s2.trans (s3.trans s5), R5, p.mono s5⟩
      | bk ρ4 => rw [hr] at p; exact p
      | rt d ρ4 => rw [hr] at p; exact p
      | rf d ρ4 => rw [hr] at p; exact p
      | exc C f' d ρ4 => rw [hr] at p; exact p
      | bad => rw [hr] at p; exact p
  · have e : i = ds.length := by omega
    subst e
    rw [List.drop_length] at p
    exact .inl ⟨w2, p σ2 H2 Hf2 R2 (Same.refl _)⟩
end
end Spk

namespace Spk
open PySem PySem.Spec PyProof.Rows L2
/-! ### comprehensions -/
def Rs.nx {α : Type} : Rs α → Rs α
  | .exc _ _ _ _ => .bad
  | r => r
@[simp] theorem Rs.nx_ok {α : Type} {a : α} {ρ : PEnv} : (Rs.ok a ρ).nx = .ok a ρ := rfl
@[simp] theorem Rs.nx_bad {α : Type} : (Rs.bad : Rs α).nx = .bad := rfl
def wipeE (ρ : PEnv) : List Nat → PEnv
  | [] => ρ
  | v :: vs => (wipeE ρ vs).set v .no
/-- the names of the comprehension get back what they had outside -/
def backE (ρ3 ρ : PEnv) : List Nat → PEnv
  | [] => ρ3
  | v :: vs => (backE ρ3 ρ vs).set v (ρ.getD v .no)
def noMut (ρ : PEnv) (vs : List Nat) : Bool := vs.all fun v => ((ρ.getD v .no).mu?).isNone
def lcD (vs : List Nat) (g : TGf) (c : BX) (f : EX) : List D → PEnv → Rs (List D)
  | [], ρ => .ok [] ρ
  | d :: ds, ρ => match g d (wipeE ρ vs) with
    | none => .bad
    | some ρ1 => (c ρ1).nx.bind fun b ρ2 => if b = true then (f ρ2).nx.bind fun y ρ3 => (lcD vs g c f ds (backE ρ3 ρ vs)).bind fun ys ρ4 => .ok (y :: ys) ρ4 else lcD vs g c f ds (backE ρ2 ρ vs)
def fLc (it : PEnv → Rs (List D)) (vs : List Nat) (g : TGf) (c : BX) (f : EX) : PEnv → Rs (List D) := fun ρ => (it ρ).bind fun ds ρ1 => if noMut ρ1 vs = true ∧ ds.length ≤ sizeLine then lcD vs g c f ds ρ1 else .bad
section
variable {G : Gx} {F : Fr} {σ σ2 : L2.St} {H Hf H' Hf' : Hp} {ρ ρ3 : PEnv}
theorem wipeE_len (ρ : PEnv) : ∀ vs, (wipeE ρ vs).length = ρ.length
  | [] => rfl
  | v :: vs => by unfold wipeE; rw [List.length_set, wipeE_len ρ vs]
theorem backE_len (ρ3 ρ : PEnv) : ∀ vs, (backE ρ3 ρ vs).length = ρ3.length
  | [] => rfl
  | v :: vs => by unfold backE; rw [List.length_set, backE_len ρ3 ρ vs]
theorem Rep.wipe (R : Rep G F σ H Hf ρ) : ∀ vs, Rep G F (L2.wipe σ vs) H Hf (wipeE ρ vs)
  | [] => R
  | v :: vs => (Rep.wipe R vs).drop v none
theorem backE_at {vs : List Nat} {j : Nat} {c : Cell} (h : (backE ρ3 ρ vs)[j]? = some c) : (j ∈ vs ∧ c = ρ.getD j .no) ∨ (j ∉ vs ∧ ρ3[j]? = some c) := by
  induction vs with
  | nil => exact .inr ⟨List.not_mem_nil, h⟩
  | cons v vs ih =>
    unfold backE at h
    rcases set_at h with ⟨rfl, rfl, _⟩ | ⟨ne, h⟩
    · exact .inl ⟨List.mem_cons_self, rfl⟩
    · rcases ih h with ⟨h1, h2⟩ | ⟨h1, h2⟩
      · exact .inl ⟨List.mem_cons_of_mem _ h1, h2⟩
      · exact .inr ⟨fun z => by rcases List.mem_cons.mp z with z | z; exact ne z.symm; exact h1 z, h2⟩
theorem wipe_out : ∀ {vs : List Nat} {j : Nat} {σ : L2.St}, j ∉ vs → (L2.wipe σ vs)[j]? = σ[j]?
  | [], _, _, _ => rfl
  | v :: vs, j, σ, h => by
    unfold L2.wipe
    rw [List.getElem?_set_ne (fun z : v = j => h (by rw [z]; exact List.mem_cons_self))]
    exact wipe_out fun z => h (List.mem_cons_of_mem _ z)
/-- behind a turn of a comprehension: the slots of the def as they were -/
theorem Rep.back (R : Rep G F σ H Hf ρ) (R2 : Rep G F σ2 H' Hf' ρ3) (s : Same Hf Hf') {vs : List Nat} (hw : L2.wipe σ2 vs = L2.wipe σ vs) (nm : noMut ρ vs = true) : Rep G F σ H' Hf' (backE ρ3 ρ vs) := by
  have ls : σ.length = σ2.length := by
    have := congrArg List.length hw
    rw [wipe_length, wipe_length] at this
    exact this.symm
  have at2 : ∀ j, j ∉ vs → σ2[j]? = σ[j]? := fun j h => by rw [← wipe_out (σ := σ2) h, hw, wipe_out h]
  have nml : ∀ j c ds, (backE ρ3 ρ vs)[j]? = some c → c.mu? = some ds → j ∉ vs ∧ ρ3[j]? = some c := fun j c ds e m => by
    rcases backE_at e with ⟨h1, h2⟩ | h
    · have := List.all_eq_true.mp nm j h1
      rw [← h2, m] at this
      cases this
    · exact h
  refine ⟨by rw [backE_len, ls]; exact R2.len, R2.sub, fun j c e => ?_, fun i j ci cj ds es p ei ej mi mj si sj => ?_, R2.prot⟩
  · rcases backE_at e with ⟨h1, h2⟩ | ⟨h1, h2⟩
    · cases hc : ρ[j]? with
      | none =>
        have : c = .no := by rw [h2, List.getD_eq_getElem?_getD, hc]; rfl
        subst this; trivial
      | some c' =>
        have e' : c = c' := by rw [h2, List.getD_eq_getElem?_getD, hc]; rfl
        subst e'
        have k := R.cell j c hc
        have n := List.all_eq_true.mp nm j h1
        rw [List.getD_eq_getElem?_getD, hc] at n
        cases c with
        | no => trivial
        | val d => obtain ⟨v, h, r⟩ := k; exact ⟨v, h, r.mono s⟩
        | own ds => cases n
        | bor ds => cases n
        | exn C f d => obtain ⟨a, dd, v, h0, h1, h2, r⟩ := k; exact ⟨a, dd, v, h0, h1, s _ _ h2, r.mono s⟩
    · have k := R2.cell j c h2
      have mk : ∀ ds p, MutOk G F σ2 H' Hf' j ds p → MutOk G F σ H' Hf' j ds p := fun ds p m => ⟨by rw [← at2 j h1]; exact m.at_, m.nf, m.np, m.ls⟩
      cases c with
      | no => trivial
      | val d => obtain ⟨v, h, r⟩ := k; exact ⟨v, by rw [← at2 j h1]; exact h, r⟩
      | own ds => obtain ⟨p, m⟩ := k; exact ⟨p, mk _ _ m⟩
      | bor ds => exact mk _ _ k
      | exn C f d => obtain ⟨a, dd, v, h0, h3, h4, r⟩ := k; exact ⟨a, dd, v, h0, by rw [← at2 j h1]; exact h3, h4, r⟩
  · obtain ⟨n1, e1⟩ := nml i ci ds ei mi
    obtain ⟨n2, e2⟩ := nml j cj es ej mj
    exact R2.apart i j ci cj ds es p e1 e2 mi mj (by rw [at2 i n1]; exact si) (by rw [at2 j n2]; exact sj)
/-- one more thing is protected -/
theorem Rep.guard (R : Rep G F σ H Hf ρ) {q : Addr} {o : HO} (hq : H q = some o) (nf : Hf q = none) (nm : ∀ (j : Nat) (c : Cell) (es : Mu), ρ[j]? = some c → c.mu? = some es → σ[j]? ≠ some (some (.ref q))) : Rep G ⟨upd F.Pt q o, F.Bp⟩ σ H Hf ρ := by
  refine ⟨R.len, R.sub, fun i c e => ?_, R.apart, fun a u e => ?_⟩
  · have k := R.cell i c e
    have mk : ∀ ds p, c.mu? = some ds → MutOk G F σ H Hf i ds p → MutOk G ⟨upd F.Pt q o, F.Bp⟩ σ H Hf i ds p := fun ds p hl m => by
      refine ⟨m.at_, m.nf, ?_, m.ls⟩
      show upd F.Pt q o p = none
      rw [upd_ne (fun z : p = q => nm i c ds e hl (by rw [← z]; exact m.at_))]
      exact m.np
    cases c with
    | no => trivial
    | val d => exact k
    | own ds => obtain ⟨p, m⟩ := k; exact ⟨p, mk _ _ rfl m⟩
    | bor ds => exact mk _ _ rfl k
    | exn C f d => exact k
  · by_cases h : a = q
    · subst h
      change upd F.Pt a o a = some u at e
      rw [upd_same] at e
      cases e
      exact ⟨hq, nf⟩
    · change upd F.Pt q o a = some u at e
      rw [upd_ne h] at e
      exact R.prot a u e
theorem Rep.unguard {q : Addr} {o : HO} (hn : F.Pt q = none) (R : Rep G ⟨upd F.Pt q o, F.Bp⟩ σ H Hf ρ) : Rep G F σ H Hf ρ ∧ H q = some o ∧ Hf q = none ∧ ∀ (j : Nat) (c : Cell) (es : Mu), ρ[j]? = some c → c.mu? = some es → σ[j]? ≠ some (some (.ref q)) := by
  have ne : ∀ p, upd F.Pt q o p = none → p ≠ q ∧ F.Pt p = none := fun p h => by
    by_cases e : p = q
    · subst e; rw [upd_same] at h; cases h
    · rw [upd_ne e] at h; exact ⟨e, h⟩
  obtain ⟨h1, h2⟩ := R.prot q o upd_same
  refine ⟨⟨R.len, R.sub, fun i c e => ?_, R.apart, fun a u e => ?_⟩, h1, h2, fun j c es e1 e2 h => ?_⟩
  · have k := R.cell i c e
    have mk : ∀ ds p, MutOk G ⟨upd F.Pt q o, F.Bp⟩ σ H Hf i ds p → MutOk G F σ H Hf i ds p := fun ds p m => ⟨m.at_, m.nf, (ne p m.np).2, m.ls⟩
    cases c with
    | no => trivial
    | val d => exact k
    | own ds => obtain ⟨p, m⟩ := k; exact ⟨p, mk _ _ m⟩
    | bor ds => exact mk _ _ k
    | exn C f d => exact k
  · exact R.prot a u (by show upd F.Pt q o a = some u; rw [upd_ne (fun z => by rw [z, hn] at e; cases e)]; exact e)
  · obtain ⟨p, m⟩ := (R.cell j c e1).mut e2
    have := m.at_
    rw [h] at this
    cases this
    exact (ne q m.np).1 rfl
/-- the list at q changes, which is no one's yet -/
theorem Rep.poke (R : Rep G F σ H Hf ρ) {q : Addr} {o : HO} (nf : Hf q = none) (np : F.Pt q = none) (nm : ∀ (j : Nat) (c : Cell) (es : Mu), ρ[j]? = some c → c.mu? = some es → σ[j]? ≠ some (some (.ref q))) : Rep G F σ (upd H q o) Hf ρ := by
  refine ⟨R.len, fun b u e => by rw [upd_ne (ne_of_none e nf)]; exact R.sub _ _ e, fun i c e => ?_, R.apart, fun a u e => ?_⟩
  · have k := R.cell i c e
    have mk : ∀ ds p, c.mu? = some ds → MutOk G F σ H Hf i ds p → MutOk G F σ (upd H q o) Hf i ds p := fun ds p hl m => by
      obtain ⟨vs, h, r⟩ := m.ls
      exact ⟨m.at_, m.nf, m.np, vs, by rw [upd_ne (fun z : p = q => nm i c ds e hl (by rw [← z]; exact m.at_))]; exact h, r⟩
    cases c with
    | no => trivial
    | val d => exact k
    | own ds => obtain ⟨p, m⟩ := k; exact ⟨p, mk _ _ rfl m⟩
    | bor ds => exact mk _ _ rfl k
    | exn C f d => exact k
  · obtain ⟨h1, h2⟩ := R.prot a u e
    exact ⟨by rw [upd_ne (fun z => by rw [z, np] at e; cases e)]; exact h1, h2⟩
/-- the heap without it -/
def hid (H : Hp) (q : Addr) : Hp := fun a => if a = q then none else H a
theorem hid_same {H : Hp} {q : Addr} : hid H q q = none := if_pos rfl
theorem hid_ne {H : Hp} {q a : Addr} (h : a ≠ q) : hid H q a = H a := if_neg h
theorem upd_hid {H : Hp} {q : Addr} {o : HO} (h : H q = some o) : upd (hid H q) q o = H := by
  funext a
  by_cases e : a = q
  · subst e; rw [upd_same, h]
  · rw [upd_ne e, hid_ne e]
theorem Rep.hide (R : Rep G F σ H Hf ρ) {q : Addr} (nf : Hf q = none) (np : F.Pt q = none) (nm : ∀ (j : Nat) (c : Cell) (es : Mu), ρ[j]? = some c → c.mu? = some es → σ[j]? ≠ some (some (.ref q))) : Rep G F σ (hid H q) Hf ρ := by
  refine ⟨R.len, fun b u e => by rw [hid_ne (ne_of_none e nf)]; exact R.sub _ _ e, fun i c e => ?_, R.apart, fun a u e => ?_⟩
  · have k := R.cell i c e
    have mk : ∀ ds p, c.mu? = some ds → MutOk G F σ H Hf i ds p → MutOk G F σ (hid H q) Hf i ds p := fun ds p hl m => by
      obtain ⟨vs, h, r⟩ := m.ls
      exact ⟨m.at_, m.nf, m.np, vs, by rw [hid_ne (fun z : p = q => nm i c ds e hl (by rw [← z]; exact m.at_))]; exact h, r⟩
    cases c with
    | no => trivial
    | val d => exact k
    | own ds => obtain ⟨p, m⟩ := k; exact ⟨p, mk _ _ rfl m⟩
    | bor ds => exact mk _ _ rfl k
    | exn C f d => exact k
  · obtain ⟨h1, h2⟩ := R.prot a u e
    exact ⟨by rw [hid_ne (fun z => by rw [z, np] at e; cases e)]; exact h1, h2⟩
theorem Rep.newFree (R : Rep G F σ H Hf ρ) {q : Addr} (nq : H q = none) : Hf q = none ∧ F.Pt q = none ∧ ∀ (j : Nat) (c : Cell) (es : Mu), ρ[j]? = some c → c.mu? = some es → σ[j]? ≠ some (some (.ref q)) := by
  refine ⟨R.nf nq, ?_, fun j c es e1 e2 h => ?_⟩
  · cases h : F.Pt q with
    | none => rfl
    | some o => have := (R.prot q o h).1; rw [nq] at this; cases this
  · obtain ⟨p, m⟩ := (R.cell j c e1).mut e2
    have := m.at_
    rw [h] at this
    cases this
    exact m.ne nq rfl
end
abbrev W0 : WX := fun _ _ _ _ => False
theorem PostE.nx {α : Type} {G : Gx} {F : Fr} {W W' : WX} {σ : L2.St} {Hf : Hp} {Q : α → Hp → Hp → PEnv → Prop} {r : Rs α} (h : PostE G F W σ Hf Q r.nx) : PostE G F W' σ Hf Q r := by
  cases r with
  | ok a ρ => exact h
  | exc C f d ρ => exact h.elim
  | bad => exact h
def DTs (G : Gx) (X : Cx) (W : WX) (ifs : List Expr) (f : BX) : Prop := ∃ t, PTs X ifs t ∧ ∀ (F : Fr) (σ : L2.St) (H Hf : Hp) (ρ : PEnv) (Q : Bool → Hp → Prop), Rep G F σ H Hf ρ →
  PostE G F W σ Hf (fun b H' _ _ => Q b H') (f ρ) → t σ H Q
section
variable {G : Gx} {X : Cx} {W : WX} {elt tg iter c : Expr} {ifs : List Expr} {pos : Pos}
def bYes : BX := fun ρ => .ok true ρ
theorem dts_nil : DTs G X W [] bYes := ⟨_, pts_nil, fun F σ H Hf ρ Q R p => p H Hf R (Same.refl _)⟩
theorem dts_one {f : BX} (h : DT G X W c f) : DTs G X W [c] f := by
  obtain ⟨t, p, q⟩ := h
  exact ⟨t, pts_one p, q⟩
/-! the readings of the judgements, whatever the context -/
def tDE (G : Gx) (W : WX) (f : EX) : TE := fun σ H Q => ∃ (F : Fr) (Hf : Hp) (ρ : PEnv), Rep G F σ H Hf ρ ∧ PostE G F W σ Hf (fun d H' Hf' _ => ∀ v, Rp G Hf' v d → Q v H') (f ρ)
theorem DO.pe {f : EX} (h : DE G X W elt f) : PE X elt (tDE G W f) := by
  obtain ⟨t, p, q⟩ := DE.elim h
  exact ⟨fun pins s σ H Q I ⟨F, Hf, ρ, R, z⟩ => p.run pins s σ H Q I (q F σ H Hf ρ Q R z)⟩
def tDT (G : Gx) (W : WX) (f : BX) : TT := fun σ H Q => ∃ (F : Fr) (Hf : Hp) (ρ : PEnv), Rep G F σ H Hf ρ ∧ PostE G F W σ Hf (fun b H' _ _ => Q b H') (f ρ)
theorem DTs.pts {f : BX} (h : DTs G X W ifs f) : PTs X ifs (tDT G W f) := by
  obtain ⟨t, p, q⟩ := h
  exact ⟨fun pins s σ H Q I ⟨F, Hf, ρ, R, z⟩ => p.run pins s σ H Q I (q F σ H Hf ρ Q R z)⟩
def tDG (G : Gx) (idx : List Nat) (g : TGf) : TG := fun v σ H Q => ∃ (F : Fr) (Hf : Hp) (ρ ρ' : PEnv) (d : D), Rep G F σ H Hf ρ ∧ Rp G Hf v d ∧ g d ρ = some ρ' ∧
  ∀ σ', Rep G F σ' H Hf ρ' → (∀ vs, (∀ i ∈ idx, i ∈ vs) → wipe σ' vs = wipe σ vs) → Q σ' H
theorem DG.pg {idx : List Nat} {g : TGf} (h : DG G X tg idx g) : PG X tg (tDG G idx g) := by
  obtain ⟨t, p, q⟩ := h
  exact ⟨fun pins s σ H v u Q I r ⟨F, Hf, ρ, ρ', d, R, rp, e, z⟩ => p.run pins s σ H v u Q I r (q F σ H Hf ρ ρ' v d Q R rp e z)⟩
/-- what is wanted of a new list -/
abbrev Qnew (G : Gx) (Q : VK) : List D → Hp → Hp → PEnv → Prop := fun ds H' Hf' _ => ∀ (p : Addr) (vs : List V), H' p = none → RpL G Hf' vs ds → Q (.ref p) (upd H' p (.lst vs))
theorem lc_read {own : List (Str × Nat)} {idx : List Nat} {it : PEnv → Rs (List D)} {g : TGf} {cb : BX} {fe : EX} {wi : TI} (q1 : ∀ (F : Fr) (σ : L2.St) (H Hf : Hp) (ρ : PEnv) (R : It → Hp → Prop), Rep G F σ H Hf ρ →
    PostE G F W σ Hf (fun ds H' Hf' _ => ∀ J, WalkD G J ds Hf' → R J H') (it ρ) → wi σ H R) (hix : ∀ i ∈ idx, i ∈ own.map (·.2)) {F : Fr} {σ : L2.St} {H Hf : Hp} {ρ : PEnv} {Q : VK} (R : Rep G F σ H Hf ρ) (p : PostE G F W σ Hf (Qnew G Q) (fLc it (own.map (·.2)) g cb fe ρ)) :
    tLc wi (tDG G idx g) (tDT G W0 cb) (tDE G W0 fe) (own.map (·.2)) σ H Q := by
  generalize hvs : own.map (·.2) = vs at *
  refine q1 F σ H Hf ρ _ R ((PostE.bind p).imp fun ds H1 Hf1 ρ1 _ R1 s1 p J w Dn nD => ?_)
  by_cases hcnd : ¬ (noMut ρ1 vs = true ∧ ds.length ≤ sizeLine)
  · rw [if_neg hcnd] at p; exact p.elim
  have hcnd := Decidable.not_not.mp hcnd
  rw [if_pos hcnd] at p
  obtain ⟨nm, hsz⟩ := hcnd
  obtain ⟨nf0, np, _⟩ := R1.newFree nD
  let Pv : Nat → Hp → Prop := fun i H => ∃ (Hf' : Hp) (ρ' : PEnv) (av : List V) (ad : List D), Same Hf1 Hf' ∧ Rep G F σ H Hf' ρ' ∧ H Dn = some (.lst av) ∧ Hf' Dn = none ∧
    (∀ (j : Nat) (c : Cell) (es : Mu), ρ'[j]? = some c → c.mu? = some es → σ[j]? ≠ some (some (.ref Dn))) ∧ RpL G Hf' av ad ∧ ad.length ≤ i ∧ noMut ρ' vs = true ∧
    PostE G F W σ Hf' (fun ds H' Hf' _ => ∀ (p : Addr) (vs : List V), H' p = none → RpL G Hf' vs ds → Q (.ref p) (upd H' p (.lst vs))) ((lcD vs g cb fe (ds.drop i) ρ').bind fun ys ρ'' => .ok (ad ++ ys) ρ'')
  have h0 : Pv 0 (upd H1 Dn (.lst [])) := by
    refine ⟨Hf1, ρ1, [], [], Same.refl _, R1.side nD _, upd_same, nf0, (R1.newFree nD).2.2, .nil, Nat.le_refl _, nm, ?_⟩
    rw [List.drop_zero]
    have e : ((lcD vs g cb fe ds ρ1).bind fun ys ρ'' => Rs.ok ([] ++ ys) ρ'') = lcD vs g cb fe ds ρ1 := by
      cases lcD vs g cb fe ds ρ1 <;> rfl
    rw [e]
    exact p
  refine ⟨fun i m H => m = ds.length - i ∧ i ≤ ds.length ∧ Pv i H, ⟨_, rfl, Nat.zero_le _, h0⟩, ?_⟩
  rintro i m H2 ⟨rfl, hi, Hf2, ρ2, av, ad, s2, R2, hD, nfD, nmD, ra, la, nm2, p⟩
  obtain ⟨w1, w2, w3⟩ := w F σ H2 Hf2 ρ2 i R2 s2
  by_cases hlt : i < ds.length
  · refine .inr ⟨w1 hlt, fun H => i + 1 ≤ ds.length ∧ Pv (i + 1) H, fun H' h => ⟨ds.length - (i + 1), by omega, rfl, h⟩, fun x H3 y => ?_⟩
    have Rg := R2.guard hD nfD nmD
    obtain ⟨_, _, w3⟩ := w _ σ H2 Hf2 ρ2 i Rg s2
    obtain ⟨Hf3, d, R3, s3, hd, r⟩ := w3 x H3 hlt y
    have e1 : ds.drop i = d :: ds.drop (i + 1) := by
      rw [List.drop_eq_getElem_cons hlt]
      rw [List.getElem?_eq_getElem hlt] at hd
      rw [Option.some.inj hd]
    rw [e1] at p
    have p := p.mono s3
    obtain ⟨R3u, _, _, _⟩ := R3.unguard np
    unfold lcD at p
    cases hgd : g d (wipeE ρ2 vs) with
    | none => rw [hgd] at p; exact p.elim
    | some ρ3 =>
      rw [hgd] at p
      refine ⟨_, Hf3, wipeE ρ2 vs, ρ3, d, R3.wipe vs, r, hgd, fun σ3 R4 hw => ⟨(hw vs hix).trans (by
        have ww : ∀ us : List Nat, (∀ u ∈ us, u ∈ vs) → wipe (wipe σ us) vs = wipe σ vs := by
          intro us
          induction us with
          | nil => intro _; rfl
          | cons u us ih =>
            intro h
            show wipe ((wipe σ us).set u none) vs = _
            rw [wipe_set (h u List.mem_cons_self)]
            exact ih fun z hz => h z (List.mem_cons_of_mem _ hz)
        exact ww vs fun _ h => h), ?_⟩⟩
      have hw3 : wipe σ3 vs = wipe σ vs := (hw vs hix).trans (by
        have ww : ∀ us : List Nat, (∀ u ∈ us, u ∈ vs) → wipe (wipe σ us) vs = wipe σ vs := by
          intro us
          induction us with
          | nil => intro _; rfl
          | cons u us ih =>
            intro h
            show wipe ((wipe σ us).set u none) vs = _
            rw [wipe_set (h u List.mem_cons_self)]
            exact ih fun z hz => h z (List.mem_cons_of_mem _ hz)
        exact ww vs fun _ h => h)
      refine ⟨_, Hf3, ρ3, R4, ?_⟩
      have p : PostE G F W σ Hf3 (Qnew G Q) (((cb ρ3).nx.bind fun b ρ2' => if b = true then (fe ρ2').nx.bind fun y ρ3 => (lcD vs g cb fe (ds.drop (i + 1)) (backE ρ3 ρ2 vs)).bind fun ys ρ4 => .ok (y :: ys) ρ4 else lcD vs g cb fe (ds.drop (i + 1)) (backE ρ2' ρ2 vs)).bind fun ys ρ'' => .ok (ad ++ ys) ρ'') := p
      cases hcb : cb ρ3 with
      | exc C f' d' ρ4 => rw [hcb] at p; exact p.elim
      | bad => rw [hcb] at p; exact p.elim
      | ok b ρ4 =>
        rw [hcb] at p
        intro H5 Hf5 R5 s5
        obtain ⟨R5u, hD5, nf5, nm5⟩ := R5.unguard np
        have p := p.mono s5
        by_cases hb : b = true
        · rw [if_pos hb]
          refine ⟨_, Hf5, ρ4, R5, ?_⟩
          have p : PostE G F W σ Hf5 (Qnew G Q) (((fe ρ4).nx.bind fun y ρ3 => (lcD vs g cb fe (ds.drop (i + 1)) (backE ρ3 ρ2 vs)).bind fun ys ρ4 => .ok (y :: ys) ρ4).bind fun ys ρ'' => .ok (ad ++ ys) ρ'') := by rw [Rs.nx_ok, Rs.bind_ok, if_pos hb] at p; exact p
          cases hfe : fe ρ4 with
          | exc C f' d' ρ5 => rw [hfe] at p; exact p.elim
          | bad => rw [hfe] at p; exact p.elim
          | ok yd ρ5 =>
            rw [hfe] at p
            intro H6 Hf6 R6 s6 yv ry
            obtain ⟨R6u, hD6, nf6, nm6⟩ := R6.unguard np
            have p := p.mono s6
            have s26 : Same Hf2 Hf6 := s3.trans (s5.trans s6)
            have Rb := R2.back R6u s26 hw3 nm2
            refine ⟨av, hD6, by rw [ra.len]; omega, hlt, Hf6, backE ρ5 ρ2 vs, av ++ [yv], ad ++ [yd], s2.trans s26, ?_, upd_same, nf6, ?_, (ra.mono s26).app (.cons ry .nil), by rw [List.length_append, List.length_singleton]; omega, ?_, ?_⟩
            · refine Rb.poke nf6 np fun j c es e1 e2 => ?_
              rcases backE_at e1 with ⟨h1, h2⟩ | ⟨h1, h2⟩
              · have := List.all_eq_true.mp nm2 j h1
                rw [← h2, e2] at this
                cases this
              · have := nm6 j c es h2 e2
                rw [← wipe_out (σ := σ) h1, ← hw3, wipe_out h1]
                exact this
            · intro j c es e1 e2
              rcases backE_at e1 with ⟨h1, h2⟩ | ⟨h1, h2⟩
              · have := List.all_eq_true.mp nm2 j h1
                rw [← h2, e2] at this
                cases this
              · have := nm6 j c es h2 e2
                rw [← wipe_out (σ := σ) h1, ← hw3, wipe_out h1]
                exact this
            · refine List.all_eq_true.mpr fun v hv => ?_
              have := List.all_eq_true.mp nm2 v hv
              cases hc' : (backE ρ5 ρ2 vs)[v]? with
              | none => rw [List.getD_eq_getElem?_getD, hc']; rfl
              | some c =>
                rcases backE_at hc' with ⟨_, h2⟩ | ⟨h1, _⟩
                · rw [List.getD_eq_getElem?_getD, hc']; show (c.mu?).isNone = true; rw [h2]; exact this
                · exact absurd hv h1
            · have e2 : (((Rs.ok yd ρ5).nx.bind fun y ρ3 => (lcD vs g cb fe (ds.drop (i + 1)) (backE ρ3 ρ2 vs)).bind fun ys ρ4 => .ok (y :: ys) ρ4).bind fun ys ρ'' => Rs.ok (ad ++ ys) ρ'') = ((lcD vs g cb fe (ds.drop (i + 1)) (backE ρ5 ρ2 vs)).bind fun ys ρ'' => Rs.ok (ad ++ [yd] ++ ys) ρ'') := by
                rw [Rs.nx_ok, Rs.bind_ok]
                cases lcD vs g cb fe (ds.drop (i + 1)) (backE ρ5 ρ2 vs) with
                | ok ys ρ6 => show Rs.ok (ad ++ yd :: ys) ρ6 = Rs.ok (ad ++ [yd] ++ ys) ρ6; rw [List.append_assoc]; rfl
                | exc _ _ _ _ => rfl
                | bad => rfl
              rw [e2] at p
              exact p
        · rw [if_neg hb]
          have p : PostE G F W σ Hf5 (Qnew G Q) ((lcD vs g cb fe (ds.drop (i + 1)) (backE ρ4 ρ2 vs)).bind fun ys ρ'' => .ok (ad ++ ys) ρ'') := by rw [Rs.nx_ok, Rs.bind_ok, if_neg hb] at p; exact p
          have s25 : Same Hf2 Hf5 := s3.trans s5
          have Rb := R2.back R5u s25 hw3 nm2
          refine ⟨hlt, Hf5, backE ρ4 ρ2 vs, av, ad, s2.trans s25, Rb, hD5, nf5, ?_, ra.mono s25, by omega, ?_, p⟩
          · intro j c es e1 e2
            rcases backE_at e1 with ⟨h1, h2⟩ | ⟨h1, h2⟩
            · have := List.all_eq_true.mp nm2 j h1
              rw [← h2, e2] at this
              cases this
            · have := nm5 j c es h2 e2
              rw [← wipe_out (σ := σ) h1, ← hw3, wipe_out h1]
              exact this
          · refine List.all_eq_true.mpr fun v hv => ?_
            have := List.all_eq_true.mp nm2 v hv
            cases hc' : (backE ρ4 ρ2 vs)[v]? with
            | none => rw [List.getD_eq_getElem?_getD, hc']; rfl
            | some c =>
              rcases backE_at hc' with ⟨_, h2⟩ | ⟨h1, _⟩
              · rw [List.getD_eq_getElem?_getD, hc']; show (c.mu?).isNone = true; rw [h2]; exact this
              · exact absurd hv h1
  · have e : i = ds.length := by omega
    subst e
    refine .inl ⟨w2, ?_⟩
    rw [List.drop_length] at p
    have p : ∀ H' Hf', Rep G F σ H' Hf' ρ2 → Same Hf2 Hf' → ∀ (p : Addr) (vs : List V), H' p = none → RpL G Hf' vs (ad ++ []) → Q (.ref p) (upd H' p (.lst vs)) := p
    rw [List.append_nil] at p
    have q := p (hid H2 Dn) Hf2 (R2.hide nfD np nmD) (Same.refl _) Dn av hid_same ra
    rw [upd_hid hD] at q
    exact q
theorem df_lc {scope : Scope} {own : List (Str × Nat)} {idx : List Nat} {it : PEnv → Rs (List D)} {g : TGf} {cb : BX} {fe : EX} (hi : DI G X W tg iter it) (ok : BlkOk X.N X.env.scope scope own)
    (hg : ∀ (s : Shared) (H : Hp) (C : Addr) (cl : List (Str × Addr)) (fp : List Addr), DG G (X.blk s H scope (compEnvC scope cl C X.env) fp) tg idx g)
    (ht : ∀ (s : Shared) (H : Hp) (C : Addr) (cl : List (Str × Addr)) (fp : List Addr), DTs G (X.blk s H scope (compEnvC scope cl C X.env) fp) W0 ifs cb)
    (he : ∀ (s : Shared) (H : Hp) (C : Addr) (cl : List (Str × Addr)) (fp : List Addr), DE G (X.blk s H scope (compEnvC scope cl C X.env) fp) W0 elt fe) (hN : X.N.Nodup) (hix : ∀ i ∈ idx, i ∈ own.map (·.2) := by decide) (hc : X.calm = true := by rfl) (hs : ∀ x, foldedSetIterable iter X.env x = pure x := by intro _; rfl) :
    DF G X W (.ListComp elt [⟨tg, iter, ifs, 0⟩] scope pos) (fLc it (own.map (·.2)) g cb fe) := by
  obtain ⟨wi, p1, q1⟩ := hi
  exact ⟨_, pe_lc hc hN p1 ok (fun s H C cl fp => (hg s H C cl fp).pg) (fun s H C cl fp => (ht s H C cl fp).pts) (fun s H C cl fp => DO.pe (he s H C cl fp)) hs, fun F σ H Hf ρ Q R p => lc_read q1 hix R p⟩
/-- x = [..] on one line -/
theorem lc_stmt {scope : Scope} {own : List (Str × Nat)} {idx : List Nat} {it : PEnv → Rs (List D)} {g : TGf} {cb : BX} {fe : EX} {i : Nat} {y : Str} {py spos : Pos} (hi : DI G X W tg iter it) (ok : BlkOk X.N X.env.scope scope own)
    (hg : ∀ (s : Shared) (H : Hp) (C : Addr) (cl : List (Str × Addr)) (fp : List Addr), DG G (X.blk s H scope (compEnvC scope cl C X.env) fp) tg idx g)
    (ht : ∀ (s : Shared) (H : Hp) (C : Addr) (cl : List (Str × Addr)) (fp : List Addr), DTs G (X.blk s H scope (compEnvC scope cl C X.env) fp) W0 ifs cb)
    (he : ∀ (s : Shared) (H : Hp) (C : Addr) (cl : List (Str × Addr)) (fp : List Addr), DE G (X.blk s H scope (compEnvC scope cl C X.env) fp) W0 elt fe) (hN : X.N.Nodup) (hy : X.N[i]? = some y) (hyl : X.env.scope.names.lookup y = some .local)
    (hsw : swapsWith (.ListComp elt [⟨tg, iter, ifs, 0⟩] scope pos) (some (.Name y py)) spos.line X.env = pure true) (hix : ∀ i ∈ idx, i ∈ own.map (·.2)) (hc : X.calm = true) (hs : ∀ x, foldedSetIterable iter X.env x = pure x) :
    ∃ t : TE, PS X (.Assign [.Name y py] (.ListComp elt [⟨tg, iter, ifs, 0⟩] scope pos) spos) (tAsg t (gName i)) ∧ ∀ (F : Fr) (σ : L2.St) (H Hf : Hp) (ρ : PEnv) (Q : VK), Rep G F σ H Hf ρ → PostE G F W σ Hf (Qnew G Q) (fLc it (own.map (·.2)) g cb fe ρ) → t σ H Q := by
  obtain ⟨wi, p1, q1⟩ := hi
  exact ⟨_, ps_setLc (i := i) hc hN hy hyl hsw p1 ok (fun s H C cl fp => (hg s H C cl fp).pg) (fun s H C cl fp => (ht s H C cl fp).pts) (fun s H C cl fp => DO.pe (he s H C cl fp)) hs, fun F σ H Hf ρ Q R p => lc_read q1 hix R p⟩
theorem ds_setLc {scope : Scope} {own : List (Str × Nat)} {idx : List Nat} {it : PEnv → Rs (List D)} {g : TGf} {cb : BX} {fe : EX} {i : Nat} {y : Str} {py spos : Pos} (hi : DI G X W tg iter it) (ok : BlkOk X.N X.env.scope scope own)
    (hg : ∀ (s : Shared) (H : Hp) (C : Addr) (cl : List (Str × Addr)) (fp : List Addr), DG G (X.blk s H scope (compEnvC scope cl C X.env) fp) tg idx g)
    (ht : ∀ (s : Shared) (H : Hp) (C : Addr) (cl : List (Str × Addr)) (fp : List Addr), DTs G (X.blk s H scope (compEnvC scope cl C X.env) fp) W0 ifs cb)
    (he : ∀ (s : Shared) (H : Hp) (C : Addr) (cl : List (Str × Addr)) (fp : List Addr), DE G (X.blk s H scope (compEnvC scope cl C X.env) fp) W0 elt fe) (hN : X.N.Nodup) (hsw : swapsWith (.ListComp elt [⟨tg, iter, ifs, 0⟩] scope pos) (some (.Name y py)) spos.line X.env = pure true) (hy : X.N[i]? = some y := by rfl) (hyl : X.env.scope.names.lookup y = some .local := by rfl)
    (hix : ∀ i ∈ idx, i ∈ own.map (·.2) := by decide) (hc : X.calm = true := by rfl) (hs : ∀ x, foldedSetIterable iter X.env x = pure x := by intro _; rfl) :
    DS G X W (.Assign [.Name y py] (.ListComp elt [⟨tg, iter, ifs, 0⟩] scope pos) spos) (sSet i (eFr (fLc it (own.map (·.2)) g cb fe))) := by
  obtain ⟨t, p1, q1⟩ := lc_stmt hi ok hg ht he hN hy hyl hsw hix hc hs
  refine ⟨_, p1, fun F σ H Hf ρ En R p => q1 F σ H Hf ρ _ R ((PostE.bind (PostS.of p)).imp fun ds H1 Hf1 ρ1 _ R1 s1 p a vs na r => ?_)⟩
  obtain ⟨R', s', r'⟩ := R1.laid na r
  have p := p _ _ R' s'
  dsimp only at p
  split at p
  · exact p _ _ _ (R'.set i r') (Same.refl _)
  · exact p.elim
theorem ds_ownLc {scope : Scope} {own : List (Str × Nat)} {idx : List Nat} {it : PEnv → Rs (List D)} {g : TGf} {cb : BX} {fe : EX} {i : Nat} {y : Str} {py spos : Pos} (hi : DI G X W tg iter it) (ok : BlkOk X.N X.env.scope scope own)
    (hg : ∀ (s : Shared) (H : Hp) (C : Addr) (cl : List (Str × Addr)) (fp : List Addr), DG G (X.blk s H scope (compEnvC scope cl C X.env) fp) tg idx g)
    (ht : ∀ (s : Shared) (H : Hp) (C : Addr) (cl : List (Str × Addr)) (fp : List Addr), DTs G (X.blk s H scope (compEnvC scope cl C X.env) fp) W0 ifs cb)
    (he : ∀ (s : Shared) (H : Hp) (C : Addr) (cl : List (Str × Addr)) (fp : List Addr), DE G (X.blk s H scope (compEnvC scope cl C X.env) fp) W0 elt fe) (hN : X.N.Nodup) (hsw : swapsWith (.ListComp elt [⟨tg, iter, ifs, 0⟩] scope pos) (some (.Name y py)) spos.line X.env = pure true) (hy : X.N[i]? = some y := by rfl) (hyl : X.env.scope.names.lookup y = some .local := by rfl)
    (hix : ∀ i ∈ idx, i ∈ own.map (·.2) := by decide) (hc : X.calm = true := by rfl) (hs : ∀ x, foldedSetIterable iter X.env x = pure x := by intro _; rfl) :
    DS G X W (.Assign [.Name y py] (.ListComp elt [⟨tg, iter, ifs, 0⟩] scope pos) spos) (sOwn i (fLc it (own.map (·.2)) g cb fe)) := by
  obtain ⟨t, p1, q1⟩ := lc_stmt hi ok hg ht he hN hy hyl hsw hix hc hs
  refine ⟨_, p1, fun F σ H Hf ρ En R p => q1 F σ H Hf ρ _ R ((PostS.of p).imp fun ds H1 Hf1 ρ1 _ R1 s1 p a vs na r => ?_)⟩
  split at p
  · exact p _ _ _ (own_new R1 i na r) (Same.refl _)
  · exact p.elim
/-- a list of one's own is given away -/
def fOwn (i : Nat) : PEnv → Rs (List D) := fun ρ => match ρ[i]? with
  | some (.own (.lst ds)) => .ok ds (ρ.set i .no)
  | _ => .bad
theorem Rep.forget {F : Fr} {σ : L2.St} {H Hf : Hp} {ρ : PEnv} (R : Rep G F σ H Hf ρ) (i : Nat) : Rep G F σ H Hf (ρ.set i .no) := by
  refine ⟨by rw [List.length_set]; exact R.len, R.sub, fun j c e => ?_, fun j k cj ck ds es p ej ek mj mk sj sk => ?_, R.prot⟩
  · rcases set_at e with ⟨rfl, rfl, hl⟩ | ⟨ne, e⟩
    · trivial
    · exact R.cell j c e
  · rcases set_at ej with ⟨rfl, rfl, _⟩ | ⟨n1, ej⟩
    · cases mj
    rcases set_at ek with ⟨rfl, rfl, _⟩ | ⟨n2, ek⟩
    · cases mk
    exact R.apart j k cj ck ds es p ej ek mj mk sj sk
theorem df_own {i : Nat} {y : Str} (hN : X.N[i]? = some y := by rfl) (hv : Vis X.env.scope y := by first | exact .inl rfl | exact .inr (.inl rfl) | exact .inr (.inr rfl)) (hd : (y == ("__debug__" : Str)) = false := by decide) (hcd : (y == ("__classdict__" : Str)) = false := by decide) : DF G X W (.Name y pos) (fOwn i) := by
  refine ⟨_, pe_var (i := i) hN hv hd hcd, fun F σ H Hf ρ Q R p => ?_⟩
  unfold fOwn at p
  split at p
  · rename_i ds hc
    obtain ⟨a, m⟩ := R.cell i _ hc
    obtain ⟨o0, ha, r0⟩ := m.ls
    obtain ⟨vs, rfl, r⟩ := r0.lst
    have nm : ∀ (j : Nat) (c : Cell) (es : Mu), (ρ.set i Cell.no)[j]? = some c → c.mu? = some es → σ[j]? ≠ some (some (.ref a)) := fun j c es e1 e2 h => by
      rcases set_at e1 with ⟨rfl, rfl, _⟩ | ⟨ne, e1⟩
      · cases e2
      · exact ne (R.apart i j _ c _ es a hc e1 rfl e2 m.at_ h)
    have q := p (hid H a) Hf ((R.forget i).hide m.nf m.np nm) (Same.refl _) a vs hid_same r
    rw [upd_hid ha] at q
    exact ⟨_, m.at_, q⟩
  · exact p.elim
end
end Spk

namespace Spk
open PySem PySem.Spec PyProof.Rows L2
/-! ### what a def promises -/
def spQ {α : Type} (G : Gx) (n : Nat) (Qr : VK → α → Hp → Hp → PEnv → Prop) (fn : List Cell → Rs α) : Sp := fun vs H Q E => ∃ (F : Fr) (Hf : Hp) (cs : List Cell), vs.length = n ∧ Rep G F (vs.map some) H Hf cs ∧
  PostE G F (fun c d _ H' => E c d H') (vs.map some) Hf (Qr Q) (fn cs)
/-- frozen data is given back -/
abbrev Qdat (G : Gx) (Q : VK) : D → Hp → Hp → PEnv → Prop := fun d H' Hf' _ => ∀ v, Rp G Hf' v d → Q v H'
abbrev spD (G : Gx) (n : Nat) (fn : List Cell → Rs D) : Sp := spQ G n (Qdat G) fn
/-- a new list is given back -/
abbrev spF (G : Gx) (n : Nat) (fn : List Cell → Rs (List D)) : Sp := spQ G n (Qnew G) fn
theorem spQ_len {α : Type} {G : Gx} {n : Nat} {Qr : VK → α → Hp → Hp → PEnv → Prop} {fn : List Cell → Rs α} {ps : List Str} (h : n = ps.length) : ∀ vs H Q E, spQ G n Qr fn vs H Q E → vs.length = ps.length := fun vs H Q E ⟨_, _, _, l, _⟩ => l.trans h
/-- the parameters' cells behind the body: a list that was lent has what stands there now -/
def finC : List Cell → PEnv → Option (List Cell)
  | [], _ => some []
  | .bor _ :: cs, .bor ds :: ρ => (finC cs ρ).map (.bor ds :: ·)
  | .val d :: cs, _ :: ρ => (finC cs ρ).map (.val d :: ·)
  | _, _ => none
/-- a def by its body: m slots -/
def fnB (m : Nat) (f : SX) : List Cell → Rs D := fun cs => match f (cs ++ List.replicate (m - cs.length) .no) with
  | .nx ρ => (match finC cs ρ with
    | some es => .ok .non es
    | none => .bad)
  | .rt d ρ => (match finC cs ρ with
    | some es => .ok d es
    | none => .bad)
  | .exc C x d ρ => (match finC cs ρ with
    | some es => .exc C x d es
    | none => .bad)
  | _ => .bad
/-- a def that gives back new lists alone -/
def fnBF (m : Nat) (f : SX) : List Cell → Rs (List D) := fun cs => match f (cs ++ List.replicate (m - cs.length) .no) with
  | .rf ds ρ => (match finC cs ρ with
    | some es => .ok ds es
    | none => .bad)
  | .exc C x d ρ => (match finC cs ρ with
    | some es => .exc C x d es
    | none => .bad)
  | _ => .bad
section
variable {G : Gx} {F : Fr} {σ : L2.St} {H Hf H' Hf' : Hp} {ρ ρ' : PEnv} {cs es : List Cell} {vs : List V}
theorem finC_at : ∀ {cs : List Cell} {ρ : PEnv} {es : List Cell}, finC cs ρ = some es → es.length = cs.length ∧ ∀ (i : Nat) (c : Cell), es[i]? = some c → (∃ d, c = .val d ∧ cs[i]? = some c) ∨ (∃ (ds es : Mu), c = .bor ds ∧ cs[i]? = some (.bor es) ∧ ρ[i]? = some c)
  | [], _, _, h => by cases h; exact ⟨rfl, fun i c e => by simp at e⟩
  | .bor bs :: cs, .bor ds :: ρ, es, h => by
    obtain ⟨es', h1, rfl⟩ := Option.map_eq_some_iff.mp (show (finC cs ρ).map _ = _ from h)
    obtain ⟨l, k⟩ := finC_at h1
    refine ⟨by simp [l], fun i c e => ?_⟩
    cases i with
    | zero => obtain rfl := Option.some.inj (by simpa using e); exact .inr ⟨ds, bs, rfl, rfl, rfl⟩
    | succ i => simpa using k i c (by simpa using e)
  | .val d :: cs, _ :: ρ, es, h => by
    obtain ⟨es', h1, rfl⟩ := Option.map_eq_some_iff.mp (show (finC cs ρ).map _ = _ from h)
    obtain ⟨l, k⟩ := finC_at h1
    refine ⟨by simp [l], fun i c e => ?_⟩
    cases i with
    | zero => obtain rfl := Option.some.inj (by simpa using e); exact .inl ⟨d, rfl, rfl⟩
    | succ i => simpa using k i c (by simpa using e)
  | .no :: _, _, _, h => by simp [finC] at h
  | .exn _ _ _ :: _, _, _, h => by simp [finC] at h
  | .own _ :: _, _, _, h => by simp [finC] at h
  | .bor _ :: _, [], _, h => by simp [finC] at h
  | .bor _ :: _, .no :: _, _, h => by simp [finC] at h
  | .bor _ :: _, .val _ :: _, _, h => by simp [finC] at h
  | .bor _ :: _, .own _ :: _, _, h => by simp [finC] at h
  | .bor _ :: _, .exn _ _ _ :: _, _, h => by simp [finC] at h
  | .val _ :: _, [], _, h => by simp [finC] at h
theorem Rep.fin (R : Rep G F (vs.map some) H Hf cs) (R' : Rep G F σ H' Hf' ρ') (s : Same Hf Hf') (h : finC cs ρ' = some es) : Rep G F (vs.map some) H' Hf' es := by
  obtain ⟨l, k⟩ := finC_at h
  have bo : ∀ i ds, es[i]? = some (.bor ds) → MutOk G F (vs.map some) H' Hf' i ds (F.Bp i) := fun i ds e => by
    rcases k i _ e with ⟨d, z, _⟩ | ⟨d1, d2, z, h1, h2⟩
    · cases z
    · cases z
      have m1 : MutOk G F (vs.map some) H Hf i d2 (F.Bp i) := R.cell i _ h1
      have m2 : MutOk G F σ H' Hf' i ds (F.Bp i) := R'.cell i _ h2
      exact ⟨m1.at_, m2.nf, m2.np, m2.ls⟩
  refine ⟨R.len.trans l.symm, R'.sub, fun i c e => ?_, fun i j ci cj ds ds' p ei ej mi mj si sj => ?_, R'.prot⟩
  · rcases k i c e with ⟨d, rfl, h1⟩ | ⟨ds, ds', rfl, h1, h2⟩
    · obtain ⟨v, h2, r⟩ := R.cell i _ h1
      exact ⟨v, h2, r.mono s⟩
    · exact bo i ds e
  · have old : ∀ (i : Nat) (c : Cell) (ds : Mu), es[i]? = some c → c.mu? = some ds → ∃ (c' : Cell) (ds' : Mu), cs[i]? = some c' ∧ c'.mu? = some ds' := fun i c ds e m => by
      rcases k i c e with ⟨d, rfl, h1⟩ | ⟨d1, d2, rfl, h1, h2⟩
      · cases m
      · exact ⟨_, _, h1, rfl⟩
    obtain ⟨c1, d1, a1, a2⟩ := old i ci ds ei mi
    obtain ⟨c2, d2, b1, b2⟩ := old j cj ds' ej mj
    exact R.apart i j c1 c2 d1 d2 p a1 b1 a2 b2 si sj
theorem Rep.pad (R : Rep G F σ H Hf ρ) (n : Nat) : Rep G F (σ ++ List.replicate n none) H Hf (ρ ++ List.replicate n .no) := by
  have low : ∀ {i : Nat} {c : Cell}, (ρ ++ List.replicate n Cell.no)[i]? = some c → (i < ρ.length ∧ ρ[i]? = some c) ∨ c = .no := fun {i c} e => by
    rw [List.getElem?_append] at e
    split at e
    · exact .inl ⟨by assumption, e⟩
    · rw [List.getElem?_replicate] at e
      split at e
      · exact .inr (Option.some.inj e).symm
      · cases e
  have sl : ∀ {i : Nat}, i < ρ.length → (σ ++ List.replicate n none)[i]? = σ[i]? := fun {i} h => List.getElem?_append_left (by rw [R.len]; exact h)
  refine ⟨by simp [R.len], R.sub, fun i c e => ?_, fun i j ci cj ds es p ei ej mi mj si sj => ?_, R.prot⟩
  · rcases low e with ⟨hl, e⟩ | rfl
    · have k := R.cell i c e
      have mk : ∀ ds p, MutOk G F σ H Hf i ds p → MutOk G F (σ ++ List.replicate n none) H Hf i ds p := fun ds p m => ⟨by rw [sl hl]; exact m.at_, m.nf, m.np, m.ls⟩
      cases c with
      | no => trivial
      | val d => obtain ⟨v, h, r⟩ := k; exact ⟨v, by rw [sl hl]; exact h, r⟩
      | own ds => obtain ⟨p, m⟩ := k; exact ⟨p, mk _ _ m⟩
      | bor ds => exact mk _ _ k
      | exn C f d => obtain ⟨a, dd, v, h0, h1, h2, r⟩ := k; exact ⟨a, dd, v, h0, by rw [sl hl]; exact h1, h2, r⟩
    · trivial
  · rcases low ei with ⟨h1, e1⟩ | rfl
    · rcases low ej with ⟨h2, e2⟩ | rfl
      · rw [sl h1] at si
        rw [sl h2] at sj
        exact R.apart i j ci cj ds es p e1 e2 mi mj si sj
      · cases mj
    · cases mi
theorem body_of {X : Cx} {W : WX} {body : List Stmt} {f : SX} {n m : Nat} {N : List Str} {Q : VK} {E : XK} (h : DSs G X W body f) (hN : N.length = m) (hW : ∀ c d σ H, E c d H → W c d σ H) (sp : spD G n (fnB m f) vs H Q E) :
    ∃ t, PSs X body t ∧ t { nx := fun _ H' => Q .non H', rt := Q } (L2.start N vs) H := by
  obtain ⟨t, p, q⟩ := h
  obtain ⟨F, Hf, cs, hl, R, po⟩ := sp
  refine ⟨t, p, ?_⟩
  have lc : vs.length = cs.length := by have := R.len; rwa [List.length_map] at this
  have es : L2.start N vs = vs.map some ++ List.replicate (m - cs.length) none := by
    unfold L2.start
    rw [hN, lc]
  rw [es]
  refine q F _ H Hf _ _ (R.pad _) ?_
  unfold fnB at po
  cases hf : f (cs ++ List.replicate (m - cs.length) .no) with
  | nx ρ =>
    rw [hf] at po
    cases hfi : finC cs ρ with
    | none => simp only [hfi] at po; exact po.elim
    | some es =>
      simp only [hfi] at po
      exact fun σ' H' Hf' R' s => po H' Hf' (R.fin R' s hfi) s .non .non
  | rt d ρ =>
    rw [hf] at po
    cases hfi : finC cs ρ with
    | none => simp only [hfi] at po; exact po.elim
    | some es =>
      simp only [hfi] at po
      exact fun v σ' H' Hf' R' s r => po H' Hf' (R.fin R' s hfi) s v r
  | exc C x d ρ =>
    rw [hf] at po
    cases hfi : finC cs ρ with
    | none => simp only [hfi] at po; exact po.elim
    | some es =>
      simp only [hfi] at po
      exact fun v dd σ' H' Hf' R' s r hd => hW _ _ _ _ (po v dd H' Hf' (R.fin R' s hfi) s r hd)
  | rf ds ρ => rw [hf] at po; exact po.elim
  | bk ρ => rw [hf] at po; exact po.elim
  | ct ρ => rw [hf] at po; exact po.elim
  | bad => rw [hf] at po; exact po.elim
theorem body_ofF {X : Cx} {W : WX} {body : List Stmt} {f : SX} {n m : Nat} {N : List Str} {Q : VK} {E : XK} (h : DSs G X W body f) (hN : N.length = m) (hW : ∀ c d σ H, E c d H → W c d σ H) (sp : spF G n (fnBF m f) vs H Q E) :
    ∃ t, PSs X body t ∧ t { nx := fun _ H' => Q .non H', rt := Q } (L2.start N vs) H := by
  obtain ⟨t, p, q⟩ := h
  obtain ⟨F, Hf, cs, hl, R, po⟩ := sp
  refine ⟨t, p, ?_⟩
  have lc : vs.length = cs.length := by have := R.len; rwa [List.length_map] at this
  have es : L2.start N vs = vs.map some ++ List.replicate (m - cs.length) none := by
    unfold L2.start
    rw [hN, lc]
  rw [es]
  refine q F _ H Hf _ _ (R.pad _) ?_
  unfold fnBF at po
  cases hf : f (cs ++ List.replicate (m - cs.length) .no) with
  | rf ds ρ =>
    rw [hf] at po
    cases hfi : finC cs ρ with
    | none => simp only [hfi] at po; exact po.elim
    | some es =>
      simp only [hfi] at po
      exact fun a ws σ' H' Hf' R' s na r => po H' Hf' (R.fin R' s hfi) s a ws na r
  | exc C x d ρ =>
    rw [hf] at po
    cases hfi : finC cs ρ with
    | none => simp only [hfi] at po; exact po.elim
    | some es =>
      simp only [hfi] at po
      exact fun v dd σ' H' Hf' R' s r hd => hW _ _ _ _ (po v dd H' Hf' (R.fin R' s hfi) s r hd)
  | nx ρ => rw [hf] at po; exact po.elim
  | rt d ρ => rw [hf] at po; exact po.elim
  | bk ρ => rw [hf] at po; exact po.elim
  | ct ρ => rw [hf] at po; exact po.elim
  | bad => rw [hf] at po; exact po.elim
/-- a def that lets nothing out -/
def fnN {α : Type} (fn : List Cell → Rs α) : List Cell → Rs α := fun cs => (fn cs).nx
theorem spQ_nx {α : Type} {n : Nat} {Qr : VK → α → Hp → Hp → PEnv → Prop} {fn : List Cell → Rs α} {Q : VK} {E : XK} (h : spQ G n Qr (fnN fn) vs H Q E) : spQ G n Qr fn vs H Q E0 := by
  obtain ⟨F, Hf, cs, hl, R, po⟩ := h
  exact ⟨F, Hf, cs, hl, R, PostE.nx po⟩
theorem body_ofN {X : Cx} {body : List Stmt} {f : SX} {n m : Nat} {N : List Str} {Q : VK} {E : XK} (h : DSs G X W0 body f) (hN : N.length = m) (sp : spD G n (fnN (fnB m f)) vs H Q E) :
    ∃ t, PSs X body t ∧ t { nx := fun _ H' => Q .non H', rt := Q } (L2.start N vs) H := body_of h hN (fun _ _ _ _ z => z) (spQ_nx sp)
theorem body_ofNF {X : Cx} {body : List Stmt} {f : SX} {n m : Nat} {N : List Str} {Q : VK} {E : XK} (h : DSs G X W0 body f) (hN : N.length = m) (sp : spF G n (fnN (fnBF m f)) vs H Q E) :
    ∃ t, PSs X body t ∧ t { nx := fun _ H' => Q .non H', rt := Q } (L2.start N vs) H := body_ofF h hN (fun _ _ _ _ z => z) (spQ_nx sp)
end
/-! ### a call -/
def Arg.cell (ρ : PEnv) : Arg → Option Cell
  | .val d => some (.val d)
  | .sl i => (ρ[i]?.bind Cell.mu?).map .bor
def cells (ρ : PEnv) : List Arg → Option (List Cell)
  | [] => some []
  | a :: as => (a.cell ρ).bind fun c => (cells ρ as).map (c :: ·)
def sls : List Arg → List Nat
  | [] => []
  | .val _ :: as => sls as
  | .sl i :: as => i :: sls as
/-- the lists that were lent have what the callee left -/
def wb : List Arg → List Cell → PEnv → Option PEnv
  | [], _, ρ => some ρ
  | .val _ :: as, _ :: cs, ρ => wb as cs ρ
  | .sl i :: as, .bor ds :: cs, ρ => (ρ[i]?).bind fun c => wb as cs (ρ.set i (c.put ds))
  | _, _, _ => none
def appF {α : Type} (n : Nat) (fn : List Cell → Rs α) (dfl : List D) (as : List Arg) (ρ : PEnv) : Rs α :=
  if as.length + dfl.length = n ∧ (sls as).Nodup then
    match cells ρ as with
    | none => .bad
    | some cs => match fn (cs ++ dfl.map .val) with
      | .ok d es => Rs.lift ((wb as es ρ).map fun ρ2 => (d, ρ2)) ρ |>.bind fun p _ => .ok p.1 p.2
      | .exc C f d es => (match wb as es ρ with
        | some ρ2 => .exc C f d ρ2
        | none => .bad)
      | .bad => .bad
  else .bad
section
variable {G : Gx} {F : Fr} {σ : L2.St} {H Hf H' Hf' : Hp} {ρ ρ2 : PEnv}
theorem ArgsOk.at_ : ∀ {vs : List V} {as : List Arg}, ArgsOk G σ Hf vs as → ∀ {k : Nat} {a : Arg}, as[k]? = some a → ∃ v, vs[k]? = some v ∧ ArgOk G σ Hf v a
  | _, _, .nil, _, _, e => by simp at e
  | _, _, .cons h t, 0, a, e => by obtain rfl := Option.some.inj (by simpa using e); exact ⟨_, rfl, h⟩
  | _, _, .cons h t, k + 1, a, e => by
    obtain ⟨v, h1, h2⟩ := ArgsOk.at_ t (k := k) (a := a) (by simpa using e)
    exact ⟨v, by simpa using h1, h2⟩
theorem ArgsOk.len : ∀ {vs : List V} {as : List Arg}, ArgsOk G σ Hf vs as → vs.length = as.length
  | _, _, .nil => rfl
  | _, _, .cons _ t => congrArg (· + 1) (ArgsOk.len t)
theorem cells_at : ∀ {as : List Arg} {cs : List Cell}, cells ρ as = some cs → cs.length = as.length ∧ ∀ (k : Nat) (c : Cell), cs[k]? = some c → (∃ d, c = .val d ∧ as[k]? = some (.val d)) ∨ (∃ i ds c', c = .bor ds ∧ as[k]? = some (.sl i) ∧ ρ[i]? = some c' ∧ c'.mu? = some ds)
  | [], _, h => by cases h; exact ⟨rfl, fun k c e => by simp at e⟩
  | a :: as, cs, h => by
    obtain ⟨c0, h1, h2⟩ := Option.bind_eq_some_iff.mp (show (a.cell ρ).bind _ = _ from h)
    obtain ⟨cs', h3, rfl⟩ := Option.map_eq_some_iff.mp h2
    obtain ⟨l, k⟩ := cells_at h3
    refine ⟨by simp [l], fun i c e => ?_⟩
    cases i with
    | zero =>
      obtain rfl := Option.some.inj (by simpa using e)
      cases a with
      | val d => cases h1; exact .inl ⟨d, rfl, rfl⟩
      | sl i =>
        obtain ⟨ds, h4, rfl⟩ := Option.map_eq_some_iff.mp (show (ρ[i]?.bind Cell.mu?).map Cell.bor = _ from h1)
        obtain ⟨c', h5, h6⟩ := Option.bind_eq_some_iff.mp h4
        exact .inr ⟨i, ds, c', rfl, rfl, h5, h6⟩
    | succ i => simpa using k i c (by simpa using e)
theorem sls_mem : ∀ {as : List Arg} {i : Nat}, i ∈ sls as ↔ ∃ k : Nat, as[k]? = some (.sl i)
  | [], i => by simp [sls]
  | .val d :: as, i => by
    rw [sls, sls_mem]
    constructor
    · rintro ⟨k, h⟩; exact ⟨k + 1, by simpa using h⟩
    · rintro ⟨k, h⟩
      cases k with
      | zero => simp at h
      | succ k => exact ⟨k, by simpa using h⟩
  | .sl j :: as, i => by
    rw [sls, List.mem_cons, sls_mem]
    constructor
    · rintro (rfl | ⟨k, h⟩)
      · exact ⟨0, rfl⟩
      · exact ⟨k + 1, by simpa using h⟩
    · rintro ⟨k, h⟩
      cases k with
      | zero => left; simpa using h.symm
      | succ k => exact .inr ⟨k, by simpa using h⟩
theorem sls_inj : ∀ {as : List Arg} {i k l : Nat}, (sls as).Nodup → as[k]? = some (.sl i) → as[l]? = some (.sl i) → k = l
  | [], _, _, _, _, h, _ => by simp at h
  | .val d :: as, i, k, l, nd, h1, h2 => by
    cases k with
    | zero => simp at h1
    | succ k =>
      cases l with
      | zero => simp at h2
      | succ l => exact congrArg (· + 1) (sls_inj (as := as) (i := i) nd (by simpa using h1) (by simpa using h2))
  | .sl j :: as, i, k, l, nd, h1, h2 => by
    have nd := List.nodup_cons.mp nd
    cases k with
    | zero =>
      cases l with
      | zero => rfl
      | succ l =>
        have e : j = i := by simpa using h1
        subst e
        exact absurd (sls_mem.mpr ⟨l, by simpa using h2⟩) nd.1
    | succ k =>
      cases l with
      | zero =>
        have e : j = i := by simpa using h2
        subst e
        exact absurd (sls_mem.mpr ⟨k, by simpa using h1⟩) nd.1
      | succ l => exact congrArg (· + 1) (sls_inj (as := as) (i := i) nd.2 (by simpa using h1) (by simpa using h2))
theorem wb_at : ∀ {as : List Arg} {es : List Cell} {ρ ρ2 : PEnv}, (sls as).Nodup → wb as es ρ = some ρ2 → ρ2.length = ρ.length ∧ ∀ (j : Nat) (c : Cell), ρ2[j]? = some c →
    (∃ (k : Nat) (c' : Cell) (ds : Mu), as[k]? = some (.sl j) ∧ es[k]? = some (.bor ds) ∧ ρ[j]? = some c' ∧ c = c'.put ds) ∨ (j ∉ sls as ∧ ρ[j]? = some c)
  | [], _, ρ, _, _, h => by cases h; exact ⟨rfl, fun j c e => .inr ⟨List.not_mem_nil, e⟩⟩
  | .val d :: as, [], _, _, _, h => by simp [wb] at h
  | .val d :: as, e0 :: es, ρ, ρ2, nd, h => by
    obtain ⟨l, k⟩ := wb_at (as := as) (es := es) (ρ := ρ) nd h
    refine ⟨l, fun j c e => ?_⟩
    rcases k j c e with ⟨k, c', ds, h1, h2, h3⟩ | h
    · exact .inl ⟨k + 1, c', ds, by simpa using h1, by simpa using h2, h3⟩
    · exact .inr h
  | .sl i :: as, [], _, _, _, h => by simp [wb] at h
  | .sl i :: as, .no :: es, _, _, _, h => by simp [wb] at h
  | .sl i :: as, .val _ :: es, _, _, _, h => by simp [wb] at h
  | .sl i :: as, .own _ :: es, _, _, _, h => by simp [wb] at h
  | .sl i :: as, .exn _ _ _ :: es, _, _, _, h => by simp [wb] at h
  | .sl i :: as, .bor ds :: es, ρ, ρ2, nd, h => by
    have nd := List.nodup_cons.mp nd
    obtain ⟨c0, h1, h2⟩ := Option.bind_eq_some_iff.mp (show (ρ[i]?).bind _ = _ from h)
    obtain ⟨l, k⟩ := wb_at (as := as) (es := es) nd.2 h2
    refine ⟨by rw [l, List.length_set], fun j c e => ?_⟩
    rcases k j c e with ⟨k, c', ds', h3, h4, h5, h6⟩ | ⟨h3, h4⟩
    · have ne : i ≠ j := fun z => nd.1 (z ▸ sls_mem.mpr ⟨k, h3⟩)
      rw [List.getElem?_set_ne ne] at h5
      exact .inl ⟨k + 1, c', ds', by simpa using h3, by simpa using h4, h5, h6⟩
    · rcases set_at h4 with ⟨rfl, rfl, _⟩ | ⟨ne, h5⟩
      · exact .inl ⟨0, c0, ds, rfl, rfl, h1, rfl⟩
      · exact .inr ⟨fun z => by rcases List.mem_cons.mp z with z | z; exact ne z.symm; exact h3 z, h5⟩
/-- the callee's frame -/
theorem call_in {vs dvs : List V} {as : List Arg} {cs : List Cell} {dfl : List D} (R : Rep G F σ H Hf ρ) (ra : ArgsOk G σ Hf vs as) (hc : cells ρ as = some cs) (nd : (sls as).Nodup) (rd : RpL G Hf dvs dfl) :
    ∃ F', Rep G F' ((vs ++ dvs).map some) H Hf (cs ++ dfl.map .val) ∧ ∀ {H' Hf' : Hp} {es : List Cell} {ρ2 : PEnv}, Rep G F' ((vs ++ dvs).map some) H' Hf' es → Same Hf Hf' → wb as es ρ = some ρ2 → Rep G F σ H' Hf' ρ2 := by
  classical
  obtain ⟨lc, hcs⟩ := cells_at hc
  let passed : Addr → Prop := fun p => ∃ k i : Nat, as[k]? = some (.sl i) ∧ vs[k]? = some (.ref p)
  let Pt' : Hp := fun a => if Hf a = none ∧ ¬ passed a then H a else none
  let Bp' : Nat → Addr := fun k => match (vs ++ dvs)[k]? with
    | some (.ref a) => a
    | _ => 0
  have lv := ra.len
  -- what a lent list is
  have lent : ∀ k i : Nat, as[k]? = some (.sl i) → ∃ p c ds, vs[k]? = some (.ref p) ∧ ρ[i]? = some c ∧ c.mu? = some ds ∧ MutOk G F σ H Hf i ds p := fun k i hk => by
    have hlt : k < as.length := (List.getElem?_eq_some_iff.mp hk).1
    obtain ⟨c0, e0⟩ : ∃ c0, cs[k]? = some c0 := ⟨_, List.getElem?_eq_getElem (by omega)⟩
    rcases hcs k c0 e0 with ⟨d, _, h2⟩ | ⟨i', ds, c', _, h2, h3, h4⟩
    · rw [hk] at h2; cases h2
    · rw [hk] at h2; cases h2
      obtain ⟨p, m⟩ := (R.cell i c' h3).mut h4
      obtain ⟨v, h5, h6⟩ := ra.at_ hk
      have h6 : σ[i]? = some (some v) := h6
      rw [m.at_] at h6
      cases h6
      exact ⟨p, c', ds, h5, h3, h4, m⟩
  have bp : ∀ (k : Nat) (p : Addr), vs[k]? = some (.ref p) → Bp' k = p := fun k p h => by
    have hl : k < vs.length := (List.getElem?_eq_some_iff.mp h).1
    show (match (vs ++ dvs)[k]? with | some (.ref a) => a | _ => 0) = p
    rw [List.getElem?_append_left hl, h]
  have sv : ∀ (k : Nat) (v : V), vs[k]? = some v → ((vs ++ dvs).map some)[k]? = some (some v) := fun k v h => by
    have hl : k < vs.length := (List.getElem?_eq_some_iff.mp h).1
    rw [List.getElem?_map, List.getElem?_append_left hl, h]; rfl
  have npass : ∀ p, passed p → F.Pt p = none ∧ ∀ j cj es, ρ[j]? = some cj → cj.mu? = some es → σ[j]? = some (some (.ref p)) → j ∈ sls as := fun p ⟨k, i, h1, h2⟩ => by
    obtain ⟨p', c, ds, h3, h4, h5, m⟩ := lent k i h1
    rw [h2] at h3
    cases h3
    refine ⟨m.np, fun j cj es e1 e2 e3 => ?_⟩
    have := R.apart i j c cj ds es p h4 e1 h5 e2 m.at_ e3
    subst this
    exact sls_mem.mpr ⟨k, h1⟩
  refine ⟨⟨Pt', Bp'⟩, ⟨?_, R.sub, fun k c e => ?_, fun k l ck cl ds es p ek el mk ml sk sl' => ?_, fun a o e => ?_⟩, fun {H' Hf' es ρ2} R' s hw => ?_⟩
  · rw [List.length_map, List.length_append, List.length_append, List.length_map, lc, lv, rd.len]
  · rw [List.getElem?_append] at e
    split at e
    · rename_i hlt
      rcases hcs k c e with ⟨d, rfl, h2⟩ | ⟨i, ds, c', rfl, h2, h3, h4⟩
      · obtain ⟨v, h5, h6⟩ := ra.at_ h2
        exact ⟨v, sv k v h5, h6⟩
      · obtain ⟨p, c2, ds2, h5, h6, h7, m⟩ := lent k i h2
        rw [h3] at h6; cases h6
        rw [h4] at h7; cases h7
        show MutOk G ⟨Pt', Bp'⟩ _ H Hf k ds (Bp' k)
        rw [bp k p h5]
        refine ⟨sv k _ h5, m.nf, ?_, m.ls⟩
        show (if Hf p = none ∧ ¬ passed p then H p else none) = none
        rw [if_neg (fun z => z.2 ⟨k, i, h2, h5⟩)]
    · rename_i hge
      rw [List.getElem?_map] at e
      obtain ⟨d, h1, rfl⟩ := Option.map_eq_some_iff.mp e
      obtain ⟨v, h2, r⟩ := rd.getD h1
      refine ⟨v, ?_, r⟩
      rw [List.getElem?_map, List.getElem?_append_right (by omega)]
      rw [show k - vs.length = k - cs.length by omega, h2]; rfl
  · have low : ∀ (k : Nat) (c : Cell) (ds : Mu), (cs ++ dfl.map Cell.val)[k]? = some c → c.mu? = some ds → ∃ i, as[k]? = some (.sl i) := fun k c ds e m => by
      rw [List.getElem?_append] at e
      split at e
      · rcases hcs k c e with ⟨d, rfl, _⟩ | ⟨i, _, _, _, h2, _⟩
        · cases m
        · exact ⟨i, h2⟩
      · rw [List.getElem?_map] at e
        obtain ⟨d, _, rfl⟩ := Option.map_eq_some_iff.mp e
        cases m
    obtain ⟨i, hi⟩ := low k ck ds ek mk
    obtain ⟨j, hj⟩ := low l cl es el ml
    obtain ⟨p1, c1, d1, a1, a2, a3, m1⟩ := lent k i hi
    obtain ⟨p2, c2, d2, b1, b2, b3, m2⟩ := lent l j hj
    rw [sv k _ a1] at sk
    rw [sv l _ b1] at sl'
    cases sk
    cases sl'
    have := R.apart i j c1 c2 d1 d2 _ a2 b2 a3 b3 m1.at_ m2.at_
    subst this
    exact sls_inj nd hi hj
  · change (if Hf a = none ∧ ¬ passed a then H a else none) = some o at e
    by_cases hh : Hf a = none ∧ ¬ passed a
    · rw [if_pos hh] at e; exact ⟨e, hh.1⟩
    · rw [if_neg hh] at e; cases e
  · obtain ⟨l2, hw2⟩ := wb_at nd hw
    have keep : ∀ p o, H p = some o → Hf p = none → ¬ passed p → H' p = some o ∧ Hf' p = none := fun p o h1 h2 h3 => R'.prot p o (by
      show (if Hf p = none ∧ ¬ passed p then H p else none) = some o
      rw [if_pos ⟨h2, h3⟩]; exact h1)
    refine ⟨R.len.trans l2.symm, R'.sub, fun j c e => ?_, fun i j ci cj ds es' p ei ej mi mj si sj => ?_, fun a o e => ?_⟩
    · rcases hw2 j c e with ⟨k, c', ds, h1, h2, h3, rfl⟩ | ⟨h1, h2⟩
      · obtain ⟨p, c1, d1, a1, a2, a3, m1⟩ := lent k j h1
        rw [h3] at a2
        cases a2
        have m2 : MutOk G ⟨Pt', Bp'⟩ ((vs ++ dvs).map some) H' Hf' k ds (Bp' k) := R'.cell k _ h2
        rw [bp k p a1] at m2
        have new : MutOk G F σ H' Hf' j ds p := ⟨m1.at_, m2.nf, m1.np, m2.ls⟩
        cases c' with
        | no => cases a3
        | val d => cases a3
        | exn C f d => cases a3
        | own es => exact ⟨p, new⟩
        | bor es =>
          have : F.Bp j = p := by
            have h := (show MutOk G F σ H Hf j es (F.Bp j) from R.cell j _ h3).at_
            rw [m1.at_] at h
            cases h; rfl
          show MutOk G F σ H' Hf' j ds (F.Bp j)
          rw [this]; exact new
      · have k0 := R.cell j c h2
        have mk : ∀ ds p, c.mu? = some ds → MutOk G F σ H Hf j ds p → MutOk G F σ H' Hf' j ds p := fun ds p hl m => by
          obtain ⟨ws, hp, r⟩ := m.ls
          have np : ¬ passed p := fun z => h1 ((npass p z).2 j c ds h2 hl m.at_)
          obtain ⟨k1, k2⟩ := keep p _ hp m.nf np
          exact ⟨m.at_, k2, m.np, ws, k1, r.mono s⟩
        cases c with
        | no => trivial
        | val d => obtain ⟨v, h, r⟩ := k0; exact ⟨v, h, r.mono s⟩
        | own ds => obtain ⟨p, m⟩ := k0; exact ⟨p, mk _ _ rfl m⟩
        | bor ds => exact mk _ _ rfl k0
        | exn C f d => obtain ⟨a, dd, v, h0, h1, h2, r⟩ := k0; exact ⟨a, dd, v, h0, h1, s _ _ h2, r.mono s⟩
    · have old : ∀ (j : Nat) (c : Cell) (ds : Mu), ρ2[j]? = some c → c.mu? = some ds → ∃ c' ds', ρ[j]? = some c' ∧ c'.mu? = some ds' := fun j c ds e m => by
        rcases hw2 j c e with ⟨k, c', ds', h1, h2, h3, rfl⟩ | ⟨h1, h2⟩
        · obtain ⟨p, c1, d1, a1, a2, a3, m1⟩ := lent k j h1
          exact ⟨c1, d1, a2, a3⟩
        · exact ⟨c, ds, h2, m⟩
      obtain ⟨c1, d1, a1, a2⟩ := old i ci ds ei mi
      obtain ⟨c2, d2, b1, b2⟩ := old j cj es' ej mj
      exact R.apart i j c1 c2 d1 d2 p a1 b1 a2 b2 si sj
    · obtain ⟨h1, h2⟩ := R.prot a o e
      exact keep a o h1 h2 fun z => by rw [(npass a z).1] at e; cases e
theorem app_ok {α : Type} {W : WX} {n : Nat} {Qr : VK → α → Hp → Hp → PEnv → Prop} {fn : List Cell → Rs α} {vs dvs : List V} {as : List Arg} {dfl : List D} {Q : VK} (R : Rep G F σ H Hf ρ) (ra : ArgsOk G σ Hf vs as) (rd : RpL G Hf dvs dfl)
    (hq : ∀ d H' Hf' ρ1 ρ2, Qr Q d H' Hf' ρ1 → Qr Q d H' Hf' ρ2) (p : PostE G F W σ Hf (Qr Q) (appF n fn dfl as ρ)) : spQ G n Qr fn (vs ++ dvs) H Q (fun c d H' => W c d σ H') := by
  unfold appF at p
  by_cases hn : ¬ (as.length + dfl.length = n ∧ (sls as).Nodup)
  · rw [if_neg hn] at p; exact p.elim
  have hn := Decidable.not_not.mp hn
  rw [if_pos hn] at p
  cases hc : cells ρ as with
  | none => simp only [hc] at p; exact p.elim
  | some cs =>
    simp only [hc] at p
    obtain ⟨F', Ri, back⟩ := call_in R ra hc hn.2 rd
    refine ⟨F', Hf, _, by rw [List.length_append, ra.len, rd.len]; exact hn.1, Ri, ?_⟩
    cases hf : fn (cs ++ dfl.map .val) with
    | bad => simp only [hf] at p; exact p.elim
    | ok d es =>
      simp only [hf] at p
      cases hw : wb as es ρ with
      | none => simp only [hw] at p; exact p.elim
      | some ρ2 =>
        simp only [hw] at p
        exact fun H' Hf' R' s => hq _ _ _ _ _ (p H' Hf' (back R' s hw) s)
    | exc C f d es =>
      simp only [hf] at p
      cases hw : wb as es ρ with
      | none => simp only [hw] at p; exact p.elim
      | some ρ2 =>
        simp only [hw] at p
        exact fun v dd H' Hf' R' s r hd => p v dd H' Hf' (back R' s hw) s r hd
end
end Spk

namespace Spk
open PySem PySem.Spec PyProof.Rows L2
section
variable {G : Gx} {X : Cx} {W : WX} {e o : Expr} {es : List Expr} {os : List Opd} {pos p : Pos} {x : Str} {k j n : Nat} {ps : List Str} {fn : List Cell → Rs D} {f C : Addr} {fd : FuncData}
theorem post_w0 {α : Type} {F : Fr} {W W' : WX} {σ : L2.St} {Hf : Hp} {Q : α → Hp → Hp → PEnv → Prop} {r : Rs α} (h : PostE G F W σ Hf Q r.nx) : PostE G F W' σ Hf Q r.nx := by
  cases r with
  | ok a ρ => exact h
  | exc C f d ρ => exact h.elim
  | bad => exact h
/-- f(..), nothing is let out -/
def eCall {α : Type} (n : Nat) (fn : List Cell → Rs α) (dfl : List D) (os : List Opd) : PEnv → Rs α := fun ρ => (evs os ρ).bind fun as ρ1 => (appF n fn dfl as ρ1).nx
/-- f(..), what f raises goes on -/
def eCallX {α : Type} (n : Nat) (fn : List Cell → Rs α) (dfl : List D) (os : List Opd) : PEnv → Rs α := fun ρ => (evs os ρ).bind fun as ρ1 => appF n fn dfl as ρ1
theorem call_e0 {ex : Expr} {dvs : List V} {dfl : List D} (ha : DA G X W es os) (rd : ∀ Hf, RpL G Hf dvs dfl) (mk : ∀ {t : TA}, PA X es t → PE X ex (fun σ H Q => t σ H fun vs H1 => spD G n fn (vs ++ dvs) H1 Q E0)) : DE G X W ex (eCall n fn dfl os) := by
  obtain ⟨t1, p1, q1⟩ := ha
  refine DE.intro ⟨_, mk p1, fun F σ H Hf ρ Q R p => ?_⟩
  refine q1 F σ H Hf ρ _ R ((PostE.bind p).imp fun as H1 Hf1 ρ1 _ R1 s1 p vs rs => ?_)
  exact app_ok (W := W0) R1 rs (rd Hf1) (fun _ _ _ _ _ h => h) (PostE.nx (W := W) p)
theorem call_ex {ex : Expr} {dvs : List V} {dfl : List D} (ha : DA G X W es os) (rd : ∀ Hf, RpL G Hf dvs dfl) (mk : ∀ {t : TA}, PA X es t → PE X ex (fun σ H Q => t σ H fun vs H1 => spD G n fn (vs ++ dvs) H1 Q (WE W σ))) : DE G X W ex (eCallX n fn dfl os) := by
  obtain ⟨t1, p1, q1⟩ := ha
  refine DE.intro ⟨_, mk p1, fun F σ H Hf ρ Q R p => ?_⟩
  refine q1 F σ H Hf ρ _ R ((PostE.bind p).imp fun as H1 Hf1 ρ1 _ R1 s1 p vs rs => ?_)
  exact app_ok (W := W) R1 rs (rd Hf1) (fun _ _ _ _ _ h => h) p
theorem call_f0 {fl : List Cell → Rs (List D)} {ex : Expr} {dvs : List V} {dfl : List D} (ha : DA G X W es os) (rd : ∀ Hf, RpL G Hf dvs dfl) (mk : ∀ {t : TA}, PA X es t → PE X ex (fun σ H Q => t σ H fun vs H1 => spF G n fl (vs ++ dvs) H1 Q E0)) : DF G X W ex (eCall n fl dfl os) := by
  obtain ⟨t1, p1, q1⟩ := ha
  refine ⟨_, mk p1, fun F σ H Hf ρ Q R p => ?_⟩
  refine q1 F σ H Hf ρ _ R ((PostE.bind p).imp fun as H1 Hf1 ρ1 _ R1 s1 p vs rs => ?_)
  exact app_ok (W := W0) R1 rs (rd Hf1) (fun _ _ _ _ _ h => h) (PostE.nx (W := W) p)
theorem df_call {fl : List Cell → Rs (List D)} (R : Rdy X.prog X.w X.K X.mg X.base x k ps (spF G n fl) f fd) (rm : Room j X.A) (hj : k ≤ j) (hg : Gl X x) (ha : DA G X W (e :: es) os) (hdb : (x == ("__debug__" : Str)) = false := by decide)
    (he : starEach (e :: es) X.env = (false, eval e X.env) :: starEach es X.env := by rfl) (hpl : (backTo pos (starEach es X.env)).any (·.1) = false := by rfl) : DF G X W (.Call (.Name x p) (e :: es) [] pos) (eCall n fl [] os) :=
  call_f0 ha (fun _ => .nil) fun pa => pe_rdy R rm hj hg pa hdb he hpl
theorem df_callG {fl : List Cell → Rs (List D)} (R : RdyG X.prog X.w X.K X.mg X.base x k ps (spF G n fl) f fd) (gd : X.A.guards = some []) (rm : Room j X.A) (hj : k ≤ j) (hg : Gl X x) (ha : DA G X W (e :: es) os) (hdb : (x == ("__debug__" : Str)) = false := by decide)
    (he : starEach (e :: es) X.env = (false, eval e X.env) :: starEach es X.env := by rfl) (hpl : (backTo pos (starEach es X.env)).any (·.1) = false := by rfl) : DF G X W (.Call (.Name x p) (e :: es) [] pos) (eCall n fl [] os) :=
  call_f0 ha (fun _ => .nil) fun pa => pe_rdyG R gd rm hj hg pa hdb he hpl
theorem de_call (R : Rdy X.prog X.w X.K X.mg X.base x k ps (spD G n fn) f fd) (rm : Room j X.A) (hj : k ≤ j) (hg : Gl X x) (ha : DA G X W (e :: es) os) (hdb : (x == ("__debug__" : Str)) = false := by decide)
    (he : starEach (e :: es) X.env = (false, eval e X.env) :: starEach es X.env := by rfl) (hpl : (backTo pos (starEach es X.env)).any (·.1) = false := by rfl) : DE G X W (.Call (.Name x p) (e :: es) [] pos) (eCall n fn [] os) :=
  call_e0 ha (fun _ => .nil) fun pa => pe_rdy R rm hj hg pa hdb he hpl
theorem de_callD {dvs : List V} (R : RdyD X.prog X.w X.K X.mg X.base x k ps dvs (spD G n fn) f fd) (rm : Room j X.A) (hj : k ≤ j) (hg : Gl X x) (ha : DA G X W (e :: es) os) (hdb : (x == ("__debug__" : Str)) = false := by decide)
    (he : starEach (e :: es) X.env = (false, eval e X.env) :: starEach es X.env := by rfl) (hpl : (backTo pos (starEach es X.env)).any (·.1) = false := by rfl) : DE G X W (.Call (.Name x p) (e :: es) [] pos) (eCall n fn [] os) :=
  call_e0 ha (fun _ => .nil) fun pa => pe_rdyD R rm hj hg pa hdb he hpl
theorem de_callD1 {dvs : List V} {dfl : List D} (R : RdyD X.prog X.w X.K X.mg X.base x k ps dvs (spD G n fn) f fd) (rm : Room j X.A) (hj : k ≤ j) (hg : Gl X x) (ha : DA G X W (e :: es) os) (rd : ∀ Hf, RpL G Hf dvs dfl) (hdb : (x == ("__debug__" : Str)) = false := by decide)
    (he : starEach (e :: es) X.env = (false, eval e X.env) :: starEach es X.env := by rfl) (hpl : (backTo pos (starEach es X.env)).any (·.1) = false := by rfl) : DE G X W (.Call (.Name x p) (e :: es) [] pos) (eCall n fn dfl os) :=
  call_e0 ha rd fun pa => pe_rdyD1 R rm hj hg pa hdb he hpl
theorem de_callG (R : RdyG X.prog X.w X.K X.mg X.base x k ps (spD G n fn) f fd) (gd : X.A.guards = some []) (rm : Room j X.A) (hj : k ≤ j) (hg : Gl X x) (ha : DA G X W (e :: es) os) (hdb : (x == ("__debug__" : Str)) = false := by decide)
    (he : starEach (e :: es) X.env = (false, eval e X.env) :: starEach es X.env := by rfl) (hpl : (backTo pos (starEach es X.env)).any (·.1) = false := by rfl) : DE G X W (.Call (.Name x p) (e :: es) [] pos) (eCall n fn [] os) :=
  call_e0 ha (fun _ => .nil) fun pa => pe_rdyG R gd rm hj hg pa hdb he hpl
theorem de_callXS (R : RdyX X.prog X.w X.K X.mg X.base x k ps (spD G n fn) f fd) (rm : Room j X.A) (hj : k ≤ j) (hg : Gl X x) (tk : Takes X W) (ha : DA G X W (e :: es) os) (hdb : (x == ("__debug__" : Str)) = false := by decide)
    (he : starEach (e :: es) X.env = (false, eval e X.env) :: starEach es X.env := by rfl) (hpl : (backTo pos (starEach es X.env)).any (·.1) = false := by rfl) : DE G X W (.Call (.Name x p) (e :: es) [] pos) (eCallX n fn [] os) :=
  call_ex ha (fun _ => .nil) fun pa => pe_callSD R.ok (rm.mono hj) hg R.gl R.kp R.bd .nil (fun σ => passAt tk σ) pa hdb he hpl
theorem de_callXD {dvs : List V} (R : RdyXD X.prog X.w X.K X.mg X.base x k ps dvs (spD G n fn) f fd) (rm : Room j X.A) (hj : k ≤ j) (hg : Gl X x) (tk : Takes X W) (ha : DA G X W (e :: es) os) (hdb : (x == ("__debug__" : Str)) = false := by decide)
    (he : starEach (e :: es) X.env = (false, eval e X.env) :: starEach es X.env := by rfl) (hpl : (backTo pos (starEach es X.env)).any (·.1) = false := by rfl) : DE G X W (.Call (.Name x p) (e :: es) [] pos) (eCallX n fn [] os) :=
  call_ex ha (fun _ => .nil) fun pa => pe_callSD R.ok (rm.mono hj) hg R.gl R.kp R.bd .nil (fun σ => passAt tk σ) pa hdb he hpl
theorem de_callXD1 {dvs : List V} {dfl : List D} (R : RdyXD X.prog X.w X.K X.mg X.base x k ps dvs (spD G n fn) f fd) (rm : Room j X.A) (hj : k ≤ j) (hg : Gl X x) (tk : Takes X W) (ha : DA G X W (e :: es) os) (rd : ∀ Hf, RpL G Hf dvs dfl) (hdb : (x == ("__debug__" : Str)) = false := by decide)
    (he : starEach (e :: es) X.env = (false, eval e X.env) :: starEach es X.env := by rfl) (hpl : (backTo pos (starEach es X.env)).any (·.1) = false := by rfl) : DE G X W (.Call (.Name x p) (e :: es) [] pos) (eCallX n fn dfl os) := by
  obtain ⟨ds, hv, bd⟩ := R.bd1
  exact call_ex ha rd fun pa => pe_callSD R.ok (rm.mono hj) hg R.gl R.kp bd hv (fun σ => passAt tk σ) pa hdb he hpl
/-! ### instances -/
theorem RpL.look {H : Hp} {g : Str} : ∀ {ks : List Str} {vs : List V} {ds : List D} {d : D}, RpL G H vs ds → vs.length = ks.length → (ks.zip ds).lookup g = some d → ∃ v, (ks.zip vs).lookup g = some v ∧ Rp G H v d
  | [], _, _, _, r, _, h => by simp at h
  | _ :: _, _, _, _, .nil, l, h => by simp at h
  | k :: ks, _, _, d, .cons (v := v) (vs := vs) (d := d0) (ds := ds) r t, l, h => by
    rw [List.zip_cons_cons, List.lookup_cons] at h ⊢
    cases e : g == k with
    | true => rw [e] at h; cases h; exact ⟨v, rfl, r⟩
    | false => rw [e] at h; exact RpL.look t (by simpa using l) h
theorem RpL.lookN {H : Hp} {g : Str} : ∀ {ks : List Str} {vs : List V} {ds : List D}, RpL G H vs ds → vs.length = ks.length → (ks.zip ds).lookup g = none → (ks.zip vs).lookup g = none
  | [], _, _, r, _, h => by simp
  | _ :: _, _, _, .nil, l, h => by simp
  | k :: ks, _, _, .cons (v := v) (vs := vs) (d := d0) (ds := ds) r t, l, h => by
    rw [List.zip_cons_cons, List.lookup_cons] at h ⊢
    cases e : g == k with
    | true => rw [e] at h; cases h
    | false => rw [e] at h; exact RpL.lookN t (by simpa using l) h
/-- the field g of an instance of one of these classes -/
def fldD (Cs : List Str) (g : Str) : D → Option D
  | .ins C ks ds => if C ∈ Cs then (ks.zip ds).lookup g else none
  | _ => none
def FldOk (G : Gx) (Cs : List Str) (g : Str) : Prop := ∀ C ∈ Cs, Cls G.K (G.cm C) ∧ NoAttr G.K (G.cm C) g
def eFld (Cs : List Str) (g : Str) (o : EX) : EX := fun ρ => (o ρ).bind fun d ρ1 => Rs.lift (fldD Cs g d) ρ1
theorem de_fld {Cs : List Str} {g : Str} {fo : EX} (h : DE G X W o fo) (hc : FldOk G Cs g) (hK : X.K = G.K := by rfl) (hb : attributeBase o g X.env (eval o X.env) = eval o X.env := by rfl) : DE G X W (.Attribute o g pos) (eFld Cs g fo) := by
  obtain ⟨t, p1, q1⟩ := DE.elim h
  refine DE.intro ⟨_, pe_fld p1 hb, fun F σ H Hf ρ Q R p => q1 F σ H Hf ρ _ R ((PostE.bind p).imp fun d H1 Hf1 ρ1 _ R1 s1 p v r => ?_)⟩
  obtain ⟨u, hu, q⟩ := lift_post (H := H1) p
  cases d with
  | ins C ks ds =>
    change (if C ∈ Cs then (ks.zip ds).lookup g else none) = some u at hu
    by_cases c : C ∈ Cs
    · rw [if_pos c] at hu
      cases r with
      | ins ha l rl =>
        obtain ⟨w, h1, h2⟩ := rl.look l hu
        exact ⟨_, _, _, _, w, rfl, R1.sub _ _ ha, hK ▸ (hc C c).1, hK ▸ (hc C c).2, h1, q H1 Hf1 R1 (Same.refl _) w h2⟩
    · rw [if_neg c] at hu; cases hu
  | _ => cases hu
/-- self.g, self not yet finished -/
def sfldM (g : Str) : Mu → Option D
  | .obj _ ks ds => (ks.zip ds).lookup g
  | _ => none
def eSFld (C : Str) (g : Str) (i : Nat) : EX := fun ρ => match ρ[i]?.bind Cell.mu? with
  | some (.obj C' ks ds) => if C' = C then Rs.lift ((ks.zip ds).lookup g) ρ else .bad
  | _ => .bad
theorem de_sfld {C g y : Str} {i : Nat} (hc : FldOk G [C] g) (hN : X.N[i]? = some y := by rfl) (hv : Vis X.env.scope y := by first | exact .inl rfl | exact .inr (.inl rfl) | exact .inr (.inr rfl)) (hd : (y == ("__debug__" : Str)) = false := by decide) (hcd : (y == ("__classdict__" : Str)) = false := by decide) (hK : X.K = G.K := by rfl)
    (hb : attributeBase (.Name y p) g X.env (eval (.Name y p) X.env) = eval (.Name y p) X.env := by rfl) : DE G X W (.Attribute (.Name y p) g pos) (eSFld C g i) := by
  refine DE.intro ⟨_, pe_fld (pe_var (i := i) hN hv hd hcd) hb, fun F σ H Hf ρ Q R p => ?_⟩
  unfold eSFld at p
  split at p
  · rename_i C' ks ds hm
    by_cases c : C' = C
    · rw [if_pos c] at p
      subst c
      obtain ⟨u, hu, q⟩ := lift_post (H := H) p
      obtain ⟨cc, h1, h2⟩ := Option.bind_eq_some_iff.mp hm
      obtain ⟨a, m⟩ := (R.cell i cc h1).mut h2
      obtain ⟨o0, ha, r0⟩ := m.ls
      cases o0 <;> try exact r0.elim
      obtain ⟨rfl, vs, rfl, l, rl⟩ := r0
      obtain ⟨w, h3, h4⟩ := rl.look l hu
      exact ⟨.ref a, m.at_, a, _, _, _, w, rfl, ha, hK ▸ (hc C' (List.mem_singleton_self _)).1, hK ▸ (hc C' (List.mem_singleton_self _)).2, h3, q H Hf R (Same.refl _) w h4⟩
    · rw [if_neg c] at p; exact p.elim
  · exact p.elim
/-- self.g = e, in the making -/
def putK (g : Str) (d : D) : List Str → List D → Option (List Str × List D)
  | [], [] => some ([g], [d])
  | k :: ks, e :: es => if k = g then some (k :: ks, d :: es) else (putK g d ks es).map fun p => (k :: p.1, e :: p.2)
  | _, _ => none
theorem putK_ok {H : Hp} {g : Str} {v : V} {d : D} (r : Rp G H v d) : ∀ {ks : List Str} {ds : List D} {vs : List V} {ks' : List Str} {ds' : List D}, RpL G H vs ds → vs.length = ks.length → putK g d ks ds = some (ks', ds') →
    ∃ vs', putF g v (ks.zip vs) = ks'.zip vs' ∧ vs'.length = ks'.length ∧ RpL G H vs' ds'
  | [], [], _, _, _, .nil, _, h => by
    cases h
    exact ⟨[v], rfl, rfl, .cons r .nil⟩
  | k :: ks, e :: es, _, ks', ds', .cons (v := w) (vs := ws) rw_ rt, l, h => by
    unfold putK at h
    by_cases c : k = g
    · rw [if_pos c] at h
      cases h
      refine ⟨v :: ws, ?_, by simpa using l, .cons r rt⟩
      show (if k = g then (k, v) :: ks.zip ws else _) = _
      rw [if_pos c]; rfl
    · rw [if_neg c] at h
      obtain ⟨⟨ks2, ds2⟩, h1, h2⟩ := Option.map_eq_some_iff.mp h
      cases h2
      obtain ⟨vs2, e1, e2, e3⟩ := putK_ok r rt (by simpa using l) h1
      refine ⟨w :: vs2, ?_, by simp [e2], .cons rw_ e3⟩
      show (if k = g then _ else (k, w) :: putF g v (ks.zip ws)) = _
      rw [if_neg c, e1]; rfl
  | [], _ :: _, _, _, _, _, _, h => by simp [putK] at h
  | _ :: _, [], _, _, _, _, _, h => by simp [putK] at h
def sFldS (C g : Str) (i : Nat) (fe : EX) : SX := fun ρ => Sr.of (fe ρ) fun d ρ1 => match ρ1[i]? with
  | some c => (match c.mu? with
    | some (.obj C' ks ds) => if C' = C ∧ ks.length < 1000 then (match putK g d ks ds with
      | some (ks', ds') => .nx (ρ1.set i (c.put (.obj C ks' ds')))
      | none => .bad) else .bad
    | _ => .bad)
  | none => .bad
theorem ds_fld {C g y : Str} {i : Nat} {fe : EX} {p1 pos' : Pos} (h : DE G X W e fe) (hc : FldOk G [C] g) (hN : X.N[i]? = some y := by rfl) (hv : Vis X.env.scope y := by first | exact .inl rfl | exact .inr (.inl rfl) | exact .inr (.inr rfl)) (hd : (y == ("__debug__" : Str)) = false := by decide) (hcd : (y == ("__classdict__" : Str)) = false := by decide) (hK : X.K = G.K := by rfl)
    (hs : swapsWith e (some (.Attribute (.Name y p1) g pos')) pos.line X.env = pure false := by rfl) : DS G X W (.Assign [.Attribute (.Name y p1) g pos'] e pos) (sFldS C g i fe) := by
  obtain ⟨t, q0, q1⟩ := DE.elim h
  refine ⟨_, ps_fld (pe_var (i := i) hN hv hd hcd) q0 hs, fun F σ H Hf ρ En R p => q1 F σ H Hf ρ _ R ((PostS.of p).imp fun d H1 Hf1 ρ1 _ R1 s1 p v r => ?_)⟩
  split at p
  · rename_i c hcell
    split at p
    · rename_i C' ks ds hm
      by_cases cc : C' = C ∧ ks.length < 1000
      · rw [if_pos cc] at p
        obtain ⟨rfl, lk⟩ := cc
        split at p
        · rename_i ks' ds' hp
          obtain ⟨a, m⟩ := (R1.cell i c hcell).mut hm
          obtain ⟨o0, ha, r0⟩ := m.ls
          cases o0 <;> try exact r0.elim
          obtain ⟨rfl, vs, rfl, l, rl⟩ := r0
          obtain ⟨vs', e1, e2, e3⟩ := putK_ok r rl l hp
          refine ⟨.ref a, m.at_, a, _, _, _, rfl, ha, hK ▸ (hc C' (List.mem_singleton_self _)).1, hK ▸ (hc C' (List.mem_singleton_self _)).2, by rw [List.length_zip]; omega, ?_⟩
          rw [e1]
          exact p σ _ Hf1 (R1.write (ws := .ins _ _ (ks'.zip vs')) (es := .obj C' ks' ds') hcell hm m.at_ ⟨rfl, vs', rfl, e2, e3⟩) (Same.refl _)
        · exact p.elim
      · rw [if_neg cc] at p; exact p.elim
    · exact p.elim
  · exact p.elim
/-! ### making an instance -/
def mkE (n : Nat) (fn : List Cell → Rs D) (C : Str) (dfl : List D) (as : List Arg) (ρ : PEnv) : Rs D := match appF n fn dfl (.sl ρ.length :: as) (ρ ++ [.own (.obj C [] [])]) with
  | .ok .non ρ2 => (match ρ2[ρ.length]? with
    | some (.own (.obj C' ks ds)) => if C' = C ∧ ρ2.length = ρ.length + 1 then .ok (.ins C ks ds) (ρ2.take ρ.length) else .bad
    | _ => .bad)
  | .exc E g d ρ2 => if ρ2.length = ρ.length + 1 then .exc E g d (ρ2.take ρ.length) else .bad
  | _ => .bad
theorem Rep.push {F : Fr} {σ : L2.St} {H Hf : Hp} {ρ : PEnv} (R : Rep G F σ H Hf ρ) {a dx : Addr} {c : Str} (na : H a = none) (nd : H dx = none) (ne : dx ≠ a) :
    Rep G F (σ ++ [some (.ref a)]) (upd (upd H dx (.own a)) a (.ins (G.cm c) dx [])) Hf (ρ ++ [.own (.obj c [] [])]) := by
  have na' : (upd H dx (.own a)) a = none := by rw [upd_ne ne.symm]; exact na
  have R1 := (R.side nd (.own a)).side na' (.ins (G.cm c) dx [])
  obtain ⟨_, np, nm⟩ := (R.side nd (.own a)).newFree na'
  have low : ∀ {i : Nat} {c' : Cell}, (ρ ++ [Cell.own (.obj c [] [])])[i]? = some c' → (i < ρ.length ∧ ρ[i]? = some c') ∨ (i = ρ.length ∧ c' = .own (.obj c [] [])) := fun {i c'} e => by
    rw [List.getElem?_append] at e
    split at e
    · exact .inl ⟨by assumption, e⟩
    · rename_i h
      have : i - ρ.length = 0 := by
        cases hh : i - ρ.length with
        | zero => rfl
        | succ m => rw [hh] at e; simp at e
      rw [this] at e
      exact .inr ⟨by omega, (Option.some.inj e).symm⟩
  have sl : ∀ {i : Nat}, i < ρ.length → (σ ++ [some (.ref a)])[i]? = σ[i]? := fun {i} h => List.getElem?_append_left (by rw [R.len]; exact h)
  have sa : (σ ++ [some (V.ref a)])[ρ.length]? = some (some (.ref a)) := by
    rw [List.getElem?_append_right (by rw [R.len]; exact Nat.le_refl _), R.len, Nat.sub_self]; rfl
  refine ⟨by simp [R.len], R1.sub, fun i c' e => ?_, fun i j ci cj ds es p ei ej mi mj si sj => ?_, R1.prot⟩
  · rcases low e with ⟨hl, e⟩ | ⟨rfl, rfl⟩
    · have k := R1.cell i c' e
      have mk : ∀ ds p, MutOk G F σ (upd (upd H dx (.own a)) a (.ins (G.cm c) dx [])) Hf i ds p → MutOk G F (σ ++ [some (.ref a)]) (upd (upd H dx (.own a)) a (.ins (G.cm c) dx [])) Hf i ds p := fun ds p m => ⟨by rw [sl hl]; exact m.at_, m.nf, m.np, m.ls⟩
      cases c' with
      | no => trivial
      | val d => obtain ⟨v, h, r⟩ := k; exact ⟨v, by rw [sl hl]; exact h, r⟩
      | own ds => obtain ⟨p, m⟩ := k; exact ⟨p, mk _ _ m⟩
      | bor ds => exact mk _ _ k
      | exn C f d => obtain ⟨a', dd, v, h0, h1, h2, r⟩ := k; exact ⟨a', dd, v, h0, by rw [sl hl]; exact h1, h2, r⟩
    · exact ⟨a, sa, (R.side nd (.own a)).nf na', np, _, upd_same, rfl, [], rfl, rfl, .nil⟩
  · rcases low ei with ⟨h1, e1⟩ | ⟨rfl, rfl⟩ <;> rcases low ej with ⟨h2, e2⟩ | ⟨rfl, rfl⟩
    · rw [sl h1] at si
      rw [sl h2] at sj
      exact R.apart i j ci cj ds es p e1 e2 mi mj si sj
    · rw [sl h1] at si
      rw [sa] at sj
      cases sj
      exact absurd si (nm i ci ds e1 mi)
    · rw [sa] at si
      rw [sl h2] at sj
      cases si
      exact absurd sj (nm j cj es e2 mj)
    · rfl
/-- the made instance is frozen -/
theorem Rep.pop {F : Fr} {σ : L2.St} {H Hf : Hp} {ρ : PEnv} {m : Nat} {a : Addr} {c : Str} {ks : List Str} {ds : List D} (hm : σ.length = m) (R : Rep G F (σ ++ [some (.ref a)]) H Hf ρ) (h : ρ[m]? = some (.own (.obj c ks ds))) (hl : ρ.length = m + 1) :
    ∃ Hf', Same Hf Hf' ∧ Rep G F σ H Hf' (ρ.take m) ∧ Rp G Hf' (.ref a) (.ins c ks ds) := by
  obtain ⟨p, mo⟩ := R.cell m _ h
  have sa : (σ ++ [some (V.ref a)])[m]? = some (some (.ref a)) := by
    rw [List.getElem?_append_right (by omega), hm, Nat.sub_self]; rfl
  have e := mo.at_
  rw [sa] at e
  cases e
  obtain ⟨o0, ha, r0⟩ := mo.ls
  cases o0 <;> try exact r0.elim
  obtain ⟨rfl, vs, rfl, l, rl⟩ := r0
  rename_i dx
  have sf : Same Hf (upd Hf a (.ins (G.cm c) dx (ks.zip vs))) := Same.new mo.nf
  have sl : ∀ {i : Nat}, i < m → (σ ++ [some (V.ref a)])[i]? = σ[i]? := fun {i} h => List.getElem?_append_left (by omega)
  have low : ∀ {i : Nat} {c' : Cell}, (ρ.take m)[i]? = some c' → i < m ∧ ρ[i]? = some c' := fun {i c'} e => by
    rw [List.getElem?_take] at e
    split at e
    · exact ⟨by assumption, e⟩
    · cases e
  refine ⟨_, sf, ⟨by rw [List.length_take]; omega, fun b o eb => ?_, fun i c' e => ?_, fun i j ci cj d1 d2 q ei ej mi mj si sj => ?_, fun b o eb => ?_⟩, .ins upd_same l (rl.mono sf)⟩
  · by_cases hb : b = a
    · subst hb; rw [upd_same] at eb; cases eb; exact ha
    · rw [upd_ne hb] at eb; exact R.sub _ _ eb
  · obtain ⟨hl, e⟩ := low e
    have k := R.cell i c' e
    have mk : ∀ ds p, c'.mu? = some ds → MutOk G F (σ ++ [some (.ref a)]) H Hf i ds p → MutOk G F σ H (upd Hf a (.ins (G.cm c) dx (ks.zip vs))) i ds p := fun ds p hm' mm => by
      have nq : p ≠ a := fun z => absurd (R.apart i m c' _ ds _ p e h hm' rfl mm.at_ (by rw [sa, z])) (by omega)
      obtain ⟨o1, h1, r1⟩ := mm.ls
      exact ⟨by rw [← sl hl]; exact mm.at_, by rw [upd_ne nq]; exact mm.nf, mm.np, o1, h1, r1.mono sf⟩
    cases c' with
    | no => trivial
    | val d => obtain ⟨v, h, r⟩ := k; exact ⟨v, by rw [← sl hl]; exact h, r.mono sf⟩
    | own ds => obtain ⟨p, mm⟩ := k; exact ⟨p, mk _ _ rfl mm⟩
    | bor ds => exact mk _ _ rfl k
    | exn C f d => obtain ⟨a', dd, v, h0, h1, h2, r⟩ := k; exact ⟨a', dd, v, h0, by rw [← sl hl]; exact h1, sf _ _ h2, r.mono sf⟩
  · obtain ⟨hi, ei⟩ := low ei
    obtain ⟨hj, ej⟩ := low ej
    exact R.apart i j ci cj d1 d2 q ei ej mi mj (by rw [sl hi]; exact si) (by rw [sl hj]; exact sj)
  · obtain ⟨h1, h2⟩ := R.prot b o eb
    exact ⟨h1, by rw [upd_ne (fun z => by rw [z, mo.np] at eb; cases eb)]; exact h2⟩
theorem Rep.cut {F : Fr} {σ : L2.St} {H Hf : Hp} {ρ : PEnv} {m : Nat} {s : Option V} (hm : σ.length = m) (R : Rep G F (σ ++ [s]) H Hf ρ) (hl : ρ.length = m + 1) : Rep G F σ H Hf (ρ.take m) := by
  have sl : ∀ {i : Nat}, i < m → (σ ++ [s])[i]? = σ[i]? := fun {i} h => List.getElem?_append_left (by omega)
  have low : ∀ {i : Nat} {c' : Cell}, (ρ.take m)[i]? = some c' → i < m ∧ ρ[i]? = some c' := fun {i c'} e => by
    rw [List.getElem?_take] at e
    split at e
    · exact ⟨by assumption, e⟩
    · cases e
  refine ⟨by rw [List.length_take]; omega, R.sub, fun i c' e => ?_, fun i j ci cj d1 d2 q ei ej mi mj si sj => ?_, R.prot⟩
  · obtain ⟨hl, e⟩ := low e
    have k := R.cell i c' e
    have mk : ∀ ds p, MutOk G F (σ ++ [s]) H Hf i ds p → MutOk G F σ H Hf i ds p := fun ds p mm => ⟨by rw [← sl hl]; exact mm.at_, mm.nf, mm.np, mm.ls⟩
    cases c' with
    | no => trivial
    | val d => obtain ⟨v, h, r⟩ := k; exact ⟨v, by rw [← sl hl]; exact h, r⟩
    | own ds => obtain ⟨p, mm⟩ := k; exact ⟨p, mk _ _ mm⟩
    | bor ds => exact mk _ _ k
    | exn C f d => obtain ⟨a', dd, v, h0, h1, h2, r⟩ := k; exact ⟨a', dd, v, h0, by rw [← sl hl]; exact h1, h2, r⟩
  · obtain ⟨hi, ei⟩ := low ei
    obtain ⟨hj, ej⟩ := low ej
    exact R.apart i j ci cj d1 d2 q ei ej mi mj (by rw [sl hi]; exact si) (by rw [sl hj]; exact sj)
theorem ArgOk.push {σ : L2.St} {Hf : Hp} {v : V} {a : Arg} {s : Option V} (h : ArgOk G σ Hf v a) : ArgOk G (σ ++ [s]) Hf v a := by
  cases a with
  | val d => exact h
  | sl i =>
    have h : σ[i]? = some (some v) := h
    show (σ ++ [s])[i]? = _
    rw [List.getElem?_append_left (List.getElem?_eq_some_iff.mp h).1]; exact h
theorem ArgsOk.push {σ : L2.St} {Hf : Hp} {s : Option V} : ∀ {vs : List V} {as : List Arg}, ArgsOk G σ Hf vs as → ArgsOk G (σ ++ [s]) Hf vs as
  | _, _, .nil => .nil
  | _, _, .cons h t => .cons h.push (ArgsOk.push t)
theorem make_ok {F : Fr} {σ : L2.St} {H Hf : Hp} {ρ : PEnv} {c : Str} {vs dvs : List V} {as : List Arg} {dfl : List D} {Q : VK} (R : Rep G F σ H Hf ρ) (ra : ArgsOk G σ Hf vs as) (rd : RpL G Hf dvs dfl)
    (p : PostE G F W σ Hf (fun d H' Hf' _ => ∀ v, Rp G Hf' v d → Q v H') (mkE n fn c dfl as ρ)) {a dx : Addr} (na : H a = none) (nd : H dx = none) (ne : dx ≠ a) :
    spD G n fn (.ref a :: (vs ++ dvs)) (upd (upd H dx (.own a)) a (.ins (G.cm c) dx [])) (fun v H2 => v = .non ∧ Q (.ref a) H2) (fun c d H' => W c d σ H') := by
  have R1 := R.push (c := c) na nd ne
  have ra1 : ArgsOk G (σ ++ [some (.ref a)]) Hf (.ref a :: vs) (.sl ρ.length :: as) := .cons (by
    show (σ ++ [some (V.ref a)])[ρ.length]? = _
    rw [List.getElem?_append_right (by rw [R.len]; exact Nat.le_refl _), R.len, Nat.sub_self]; rfl) ra.push
  have lm : σ.length = ρ.length := R.len
  refine app_ok (Qr := Qdat G) (vs := .ref a :: vs) (W := fun c d _ H' => W c d σ H') R1 ra1 rd (fun _ _ _ _ _ h => h) ?_
  unfold mkE at p
  cases hr : appF n fn dfl (.sl ρ.length :: as) (ρ ++ [.own (.obj c [] [])]) with
  | bad => rw [hr] at p; exact p.elim
  | exc E g d ρ2 =>
    simp only [hr] at p
    by_cases hl : ρ2.length = ρ.length + 1
    · rw [if_pos hl] at p
      exact fun v dd H' Hf' R' s r hd => p v dd H' Hf' (R'.cut lm hl) s r hd
    · rw [if_neg hl] at p; exact p.elim
  | ok d ρ2 =>
    simp only [hr] at p
    cases d with
    | non =>
      cases hc : ρ2[ρ.length]? with
      | none => simp only [hc] at p; exact p.elim
      | some cl =>
        simp only [hc] at p
        cases cl with
        | own mm =>
          cases mm with
          | obj C' ks ds =>
            change PostE G F W σ Hf _ (if C' = c ∧ ρ2.length = ρ.length + 1 then Rs.ok (D.ins c ks ds) (ρ2.take ρ.length) else Rs.bad) at p
            by_cases hl : C' = c ∧ ρ2.length = ρ.length + 1
            · rw [if_pos hl] at p
              obtain ⟨rfl, hl⟩ := hl
              intro H' Hf' R' s v r
              obtain ⟨Hf2, s2, R2, r2⟩ := R'.pop lm hc hl
              exact ⟨rp_n r, p H' Hf2 R2 (s.trans s2) _ r2⟩
            · rw [if_neg hl] at p; exact p.elim
          | lst ds => exact p.elim
        | _ => exact p.elim
    | _ => exact p.elim
def eMk (n : Nat) (fn : List Cell → Rs D) (c : Str) (dfl : List D) (os : List Opd) : EX := fun ρ => (evs os ρ).bind fun as ρ1 => (mkE n fn c dfl as ρ1).nx
theorem de_mkP {c : Str} (R : RdyMp X.prog X.w X.K X.mg X.base x (G.cm c) k ps (spD G n fn) f fd) (rm : Room j X.A) (hj : k + 1 ≤ j) (hg : Gl X x) (ha : DA G X W (e :: es) os) (hdb : (x == ("__debug__" : Str)) = false := by decide)
    (he : starEach (e :: es) X.env = (false, eval e X.env) :: starEach es X.env := by rfl) (hpl : (backTo pos (starEach es X.env)).any (·.1) = false := by rfl) : DE G X W (.Call (.Name x p) (e :: es) [] pos) (eMk n fn c [] os) := by
  obtain ⟨t1, p1, q1⟩ := ha
  refine DE.intro ⟨_, pe_rdyMp R rm hj hg p1 hdb he hpl, fun F σ H Hf ρ Q R p => ?_⟩
  refine q1 F σ H Hf ρ _ R ((PostE.bind p).imp fun as H1 Hf1 ρ1 _ R1 s1 p vs rs a dx na nd ne => ?_)
  exact make_ok (W := W0) R1 rs .nil (PostE.nx (W := W) p) na nd ne
/-! ### methods, properties, signs -/
theorem de_prop {c g : Str} {q : Addr} {fo : EX} (h : DE G X W o fo) (R : RdyPr X.prog X.w X.K X.mg X.base (G.cm c) g k (spD G 1 fn) q f fd) (hc : Cls X.K (G.cm c)) (rm : Room j X.A) (hj : k + 1 ≤ j) (hb : attributeBase o g X.env (eval o X.env) = eval o X.env := by rfl) :
    DE G X W (.Attribute o g pos) (fun ρ => (fo ρ).bind fun d ρ1 => match d with
      | .ins C ks ds => if C = c then (appF 1 fn [] [.val (.ins C ks ds)] ρ1).nx else .bad
      | _ => .bad) := by
  obtain ⟨t, p1, q1⟩ := DE.elim h
  refine DE.intro ⟨_, pe_prop p1 hc R.pr R.ok (rm.mono hj) R.bd .nil pass0 hb, fun F σ H Hf ρ Q Rr p => q1 F σ H Hf ρ _ Rr ((PostE.bind p).imp fun d H1 Hf1 ρ1 _ R1 s1 p v r => ?_)⟩
  cases d with
  | ins C ks ds =>
    change PostE G F W σ Hf1 _ (if C = c then (appF 1 fn [] [.val (.ins C ks ds)] ρ1).nx else .bad) at p
    by_cases cc : C = c
    · rw [if_pos cc] at p
      have p2 := p
      subst cc
      have r0 : ArgOk G σ Hf1 v (.val (.ins C ks ds)) := r
      cases r with
      | ins ha l rl => exact ⟨_, _, _, rfl, R1.sub _ _ ha, app_ok (vs := [_]) (W := W0) R1 (.cons r0 .nil) .nil (fun _ _ _ _ _ h => h) (PostE.nx (W := W) p2)⟩
    · rw [if_neg cc] at p; exact p.elim
  | _ => exact p.elim
end
end Spk

namespace Spk
open PySem PySem.Spec PyProof.Rows L2
section
variable {G : Gx} {F : Fr} {σ : L2.St} {H Hf H' : Hp} {ρ : PEnv}
/-- the heap has grown: all that is new is frozen -/
theorem Rep.grown (R : Rep G F σ H Hf ρ) (s : Same H H') : ∃ Hf', Same Hf Hf' ∧ Rep G F σ H' Hf' ρ ∧ ∀ a o, H a = none → H' a = some o → Hf' a = some o := by
  classical
  let Hf' : Hp := fun a => match Hf a with
    | some o => some o
    | none => if H a = none then H' a else none
  have e1 : ∀ a o, Hf a = some o → Hf' a = some o := fun a o h => by show (match Hf a with | some o => some o | none => _) = _; rw [h]
  have e2 : ∀ a, Hf a = none → H a = none → Hf' a = H' a := fun a h1 h2 => by show (match Hf a with | some o => some o | none => if H a = none then H' a else none) = _; rw [h1]; exact if_pos h2
  have e3 : ∀ a o, Hf a = none → H a = some o → Hf' a = none := fun a o h1 h2 => by show (match Hf a with | some o => some o | none => if H a = none then H' a else none) = _; rw [h1]; exact if_neg (by rw [h2]; exact fun z => nomatch z)
  refine ⟨Hf', fun a o h => e1 a o h, ⟨R.len, fun a o h => ?_, fun i c e => ?_, R.apart, fun a o e => ?_⟩, fun a o h1 h2 => ?_⟩
  · cases hf : Hf a with
    | some u =>
      rw [e1 a u hf] at h
      cases h
      exact s _ _ (R.sub _ _ hf)
    | none =>
      cases hh : H a with
      | none => rw [e2 a hf hh] at h; exact h
      | some u => rw [e3 a u hf hh] at h; cases h
  · have k := R.cell i c e
    have mk : ∀ ds p, MutOk G F σ H Hf i ds p → MutOk G F σ H' Hf' i ds p := fun ds p m => by
      obtain ⟨o, h1, r⟩ := m.ls
      exact ⟨m.at_, e3 p o m.nf h1, m.np, o, s _ _ h1, r.mono fun a o h => e1 a o h⟩
    cases c with
    | no => trivial
    | val d => obtain ⟨v, h, r⟩ := k; exact ⟨v, h, r.mono fun a o h => e1 a o h⟩
    | own ds => obtain ⟨p, m⟩ := k; exact ⟨p, mk _ _ m⟩
    | bor ds => exact mk _ _ k
    | exn C f d => obtain ⟨a', dd, v, h0, h1, h2, r⟩ := k; exact ⟨a', dd, v, h0, h1, e1 _ _ h2, r.mono fun a o h => e1 a o h⟩
  · obtain ⟨h1, h2⟩ := R.prot a o e
    exact ⟨s _ _ h1, e3 a o h2 h1⟩
  · have hf : Hf a = none := R.sub.free h1
    rw [e2 a hf h1]; exact h2
end
section
variable {G : Gx} {X : Cx} {W : WX} {e e2 o a b : Expr} {es : List Expr} {os : List Opd} {pos p : Pos} {x : Str} {k j n : Nat} {ps : List Str} {fn : List Cell → Rs D} {f C : Addr} {fd : FuncData}
/-! ### signs between instances -/
def D.isRef : D → Bool
  | .lst _ => true
  | .tup _ => true
  | .ins _ _ _ => true
  | .scr _ => true
  | _ => false
theorem rp_ref {H : Hp} {v : V} {d : D} (r : Rp G H v d) (h : d.isRef = true) : ∃ a, v = .ref a := by
  cases r <;> first | exact ⟨_, rfl⟩ | cases h
def isIns (c : Str) : D → Bool
  | .ins C _ _ => C == c
  | _ => false
theorem ins_of {H : Hp} {v : V} {d : D} {c : Str} (r : Rp G H v d) (h : isIns c d = true) : ∃ a dx fs, v = .ref a ∧ H a = some (.ins (G.cm c) dx fs) := by
  cases r <;> try cases h
  rename_i h0 _ _
  obtain rfl := eq_of_beq h
  exact ⟨_, _, _, rfl, h0⟩
def eOwn (c : Str) (fn : List Cell → Rs D) (fa fb : EX) : EX := fun ρ => (fa ρ).bind fun x ρ1 => (fb ρ1).bind fun y ρ2 => if isIns c x = true ∧ isIns c y = true then ((appF 2 fn [] [.val x, .val y] ρ2).nx.bind fun d ρ3 => if d.isRef = true then .ok d ρ3 else .bad) else .bad
theorem de_own {op : Operator} {m c : Str} {fa fb : EX} (ha : DE G X W a fa) (hb : DE G X W b fb) (R : RdyOp X.prog X.w X.K X.mg X.base (G.cm c) m k (spD G 2 fn) f) (rm : Room j X.A) (hj : k ≤ j) (hc : PySem.W.selfFirst X.K (G.cm c) = true) (hm : PySem.dunder op.info.2 = m := by decide +kernel) :
    DE G X W (.BinOp a op b pos) (eOwn c fn fa fb) := by
  obtain ⟨t1, p1, q1⟩ := DE.elim ha
  obtain ⟨t2, p2, q2⟩ := DE.elim hb
  refine DE.intro ⟨_, pe_op (op_rdy R hm rm hj hc) p1 p2, fun F σ H Hf ρ Q Rr p => ?_⟩
  refine q1 F σ H Hf ρ _ Rr ((PostE.bind p).imp fun x H1 Hf1 ρ1 _ R1 s1 p v r1 => ?_)
  refine q2 F σ H1 Hf1 ρ1 _ R1 ((PostE.bind p).imp fun y H2 Hf2 ρ2 _ R2 s2 p w r2 => ?_)
  by_cases cc : isIns c x = true ∧ isIns c y = true
  · rw [if_pos cc] at p
    have r1 := r1.mono s2
    obtain ⟨a, dx, fs, ea, ha⟩ := ins_of r1 cc.1
    obtain ⟨b, dy, gs, eb, hb⟩ := ins_of r2 cc.2
    refine ⟨a, b, dx, dy, fs, gs, ea, eb, R2.sub _ _ ha, R2.sub _ _ hb, ?_⟩
    refine app_ok (vs := [v, w]) (as := [.val x, .val y]) (W := W0) R2 (.cons r1 (.cons r2 .nil)) .nil (fun _ _ _ _ _ h => h) (PostE.nx (W := W) ?_)
    exact (PostE.bind p).imp fun d H3 Hf3 ρ3 _ R3 s3 p u ru => by
      by_cases c2 : d.isRef = true
      · rw [if_pos c2] at p
        obtain ⟨q, rfl⟩ := rp_ref ru c2
        exact ⟨⟨q, rfl⟩, p H3 Hf3 R3 (Same.refl _) _ ru⟩
      · rw [if_neg c2] at p; exact p.elim
  · rw [if_neg cc] at p; exact p.elim
/-- an own method of one argument, self -/
def eOwn1 (c : Str) (fn : List Cell → Rs D) (fa : EX) : EX := fun ρ => (fa ρ).bind fun x ρ1 => if isIns c x = true then (appF 1 fn [] [.val x] ρ1).nx else .bad
theorem de_inv {c : Str} {fa : EX} (ha : DE G X W a fa) (R : RdyOp X.prog X.w X.K X.mg X.base (G.cm c) "__invert__" k (spD G 1 fn) f) (rm : Room j X.A) (hj : k ≤ j) : DE G X W (.UnaryOp .Invert a pos) (eOwn1 c fn fa) := by
  obtain ⟨t1, p1, q1⟩ := DE.elim ha
  refine DE.intro ⟨_, pe_un (inv_rdy R rm hj) p1, fun F σ H Hf ρ Q Rr p => ?_⟩
  refine q1 F σ H Hf ρ _ Rr ((PostE.bind p).imp fun x H1 Hf1 ρ1 _ R1 s1 p v r1 => ?_)
  by_cases cc : isIns c x = true
  · rw [if_pos cc] at p
    obtain ⟨a, dx, fs, ea, ha⟩ := ins_of r1 cc
    subst ea
    exact ⟨a, dx, fs, rfl, R1.sub _ _ ha, app_ok (vs := [.ref a]) (as := [.val x]) (W := W0) R1 (.cons r1 .nil) .nil (fun _ _ _ _ _ h => h) (PostE.nx (W := W) p)⟩
  · rw [if_neg cc] at p; exact p.elim
/-- len(x) by an own method -/
def eLenO (c : Str) (fn : List Cell → Rs D) (fa : EX) : EX := fun ρ => (eOwn1 c fn fa ρ).bind fun d ρ1 => match d with
  | .int i => if 0 ≤ i ∧ i < 9223372036854775808 then .ok (.int i) ρ1 else .bad
  | _ => .bad
theorem de_lenO {c : Str} {fa : EX} (ha : DE G X W a fa) (R : RdyOp X.prog X.w X.K X.mg X.base (G.cm c) "__len__" k (spD G 1 fn) f) (rm : Room j X.A) (hj : k + 1 ≤ j) (hg : Gl X "len") (hm : X.mg "len" = none) (he : starEach [a] X.env = (false, eval a X.env) :: starEach [] X.env := by rfl) (hpl : (backTo pos (starEach [] X.env)).any (·.1) = false := by rfl) : DE G X W (.Call (.Name "len" p) [a] [] pos) (eLenO c fn fa) := by
  obtain ⟨t1, p1, q1⟩ := DE.elim ha
  refine DE.intro ⟨_, pe_callB (call_lenOwn R.ok rm hj R.at_ R.fn) hg hm (by decide +kernel) (pa_cons p1 pa_nil he) (by decide) (by decide) he hpl, fun F σ H Hf ρ Q Rr p => ?_⟩
  refine q1 F σ H Hf ρ _ Rr ((PostE.bind (PostE.bind p)).imp fun x H1 Hf1 ρ1 _ R1 s1 p v r1 => ?_)
  by_cases cc : isIns c x = true
  · rw [if_pos cc] at p
    obtain ⟨a, dx, fs, ea, ha⟩ := ins_of r1 cc
    subst ea
    refine ⟨a, dx, fs, rfl, R1.sub _ _ ha, app_ok (vs := [.ref a]) (as := [.val x]) (W := W0) R1 (.cons r1 .nil) .nil (fun _ _ _ _ _ h => h) (PostE.nx (W := W) (p.imp fun d H3 Hf3 ρ3 _ R3 s3 p u ru => ?_))⟩
    cases d with
    | int i =>
      obtain rfl := rp_i ru
      change PostE G F W σ Hf3 _ (if 0 ≤ i ∧ i < 9223372036854775808 then Rs.ok (D.int i) ρ3 else Rs.bad) at p
      by_cases c2 : 0 ≤ i ∧ i < 9223372036854775808
      · rw [if_pos c2] at p
        exact ⟨i, rfl, c2, p H3 Hf3 R3 (Same.refl _) _ (.int _)⟩
      · rw [if_neg c2] at p; exact p.elim
    | _ => exact p.elim
  · rw [if_neg cc] at p; exact p.elim
/-! ### isinstance -/
structure InsTy (G : Gx) (c : Str) : Prop where
  cl : Cls G.K (G.cm c)
  ha : PySem.W.findIn G.K (.ref (G.cm c)) "__class__" = some (some (.builtin "object.__class__"))
  hn : PySem.W.specialIn G.K (.builtin "object.__class__") "__get__" = some (some (.builtin "getset_descriptor.__get__"))
  ht : PySem.W.takesIn G.K (.builtin "object.__class__") = some true
  hm : PySem.W.mroIn G.K (G.cm c) (.type "object") = some true
/-- the type of data -/
def tyD (G : Gx) : D → Option Value
  | .non => some (.type "NoneType")
  | .bl _ => some (.type "bool")
  | .int _ => some (.type "int")
  | .str _ => some (.type "str")
  | .lst _ => some (.type "list")
  | .tup _ => some (.type "tuple")
  | .ins c _ _ => some (.ref (G.cm c))
  | .scr _ => none
def tyS : D → Option String
  | .non => some "NoneType"
  | .bl _ => some "bool"
  | .int _ => some "int"
  | .str _ => some "str"
  | .lst _ => some "list"
  | .tup _ => some "tuple"
  | _ => none
theorem ty_rp {H : Hp} {v : V} {d : D} {t : Value} (hi : ∀ c ks ds, d = .ins c ks ds → InsTy G c) (r : Rp G H v d) (h : tyD G d = some t) : TyX G.K H v t := by
  cases r <;> try cases h
  · exact .base .non
  · exact .base (.bl _)
  · exact .base (.int _)
  · exact .base (.str _)
  · rename_i q _; exact .base (.lst q)
  · rename_i q _
    rcases q with (q | ⟨o, q⟩) | ⟨o, its, n, q, c, _⟩
    · exact .base (.tup q)
    · exact .fTuple q
    · exact .kTuple q c
  · rename_i h0 _ _
    have I := hi _ _ _ rfl
    exact .base (.ins h0 I.cl I.ha I.hn I.ht I.hm)
/-- what isinstance(x, u) tells: tb by the built-in types' names, ow by the own classes' -/
structure KitF (G : Gx) (u : Value) (tb : List (String × Bool)) (ow : List (Str × Bool)) : Prop where
  bi : ∀ (a : String) (b : Bool), tb.lookup a = some b → PySem.W.kitOne G.K (.type a) u = some b
  ow : ∀ c b, ow.lookup c = some b → InsTy G c ∧ PySem.W.kitOne G.K (.ref (G.cm c)) u = some b
def isiD (tb : List (String × Bool)) (ow : List (Str × Bool)) (d : D) : Option Bool := match d with
  | .ins c _ _ => ow.lookup c
  | d => (tyS d).bind fun s => tb.lookup s
theorem isi_ok {d : D} {u : Value} {tb : List (String × Bool)} {ow : List (Str × Bool)} {b : Bool} (kf : KitF G u tb ow) (h : isiD tb ow d = some b) : ∃ t, tyD G d = some t ∧ PySem.W.kitOne G.K t u = some b ∧ ∀ {H : Hp} {v : V}, Rp G H v d → TyX G.K H v t := by
  cases d with
  | ins c ks ds =>
    obtain ⟨I, k⟩ := kf.ow c b h
    exact ⟨_, rfl, k, fun r => ty_rp (fun _ _ _ e => by cases e; exact I) r rfl⟩
  | scr ns => cases h
  | non => exact ⟨_, rfl, kf.bi _ _ h, fun r => ty_rp (fun _ _ _ e => by cases e) r rfl⟩
  | bl _ => exact ⟨_, rfl, kf.bi _ _ h, fun r => ty_rp (fun _ _ _ e => by cases e) r rfl⟩
  | int _ => exact ⟨_, rfl, kf.bi _ _ h, fun r => ty_rp (fun _ _ _ e => by cases e) r rfl⟩
  | str _ => exact ⟨_, rfl, kf.bi _ _ h, fun r => ty_rp (fun _ _ _ e => by cases e) r rfl⟩
  | lst _ => exact ⟨_, rfl, kf.bi _ _ h, fun r => ty_rp (fun _ _ _ e => by cases e) r rfl⟩
  | tup _ => exact ⟨_, rfl, kf.bi _ _ h, fun r => ty_rp (fun _ _ _ e => by cases e) r rfl⟩
def eIsi (tb : List (String × Bool)) (ow : List (Str × Bool)) (o : Opd) : EX := fun ρ => (o.ev ρ).bind fun a ρ1 => Rs.lift (((a.dat ρ1).bind (isiD tb ow)).map D.bl) ρ1
theorem de_isi {tb : List (String × Bool)} {ow : List (Str × Bool)} {o1 : Opd} {c : V} {u : Value} (ha : DO G X W a o1) (kf : KitF G u tb ow) (hcls : ClsV c u) (ht : PE X b (tC c)) (hg : Gl X "isinstance") (hm : X.mg "isinstance" = none) (hK : X.K = G.K := by rfl)
    (he0 : starEach [b] X.env = (false, eval b X.env) :: starEach [] X.env := by rfl) (he : starEach [a, b] X.env = (false, eval a X.env) :: starEach [b] X.env := by rfl) (hpl : (backTo pos (starEach [b] X.env)).any (·.1) = false := by rfl) : DE G X W (.Call (.Name "isinstance" p) [a, b] [] pos) (eIsi tb ow o1) := by
  obtain ⟨t1, p1, q1⟩ := ha
  refine DE.intro ⟨_, pe_callB call_isi hg hm (by decide +kernel) (pa_cons p1 (pa_cons ht pa_nil he0) he) (by decide) (by decide) he hpl, fun F σ H Hf ρ Q R p => ?_⟩
  refine q1 F σ H Hf ρ _ R ((PostE.bind p).imp fun a1 H1 Hf1 ρ1 _ R1 s1 p v r => ?_)
  obtain ⟨d, hd, q⟩ := lift_post (H := H1) p
  obtain ⟨bb, h1, rfl⟩ := Option.map_eq_some_iff.mp hd
  obtain ⟨d, h1, h2⟩ := Option.bind_eq_some_iff.mp h1
  obtain ⟨t, _, k2, k1⟩ := isi_ok kf h2
  have k1 := k1 ((ArgOk.rq R1 r h1).rp R1.sub)
  exact ⟨v, c, t, u, bb, rfl, hcls, hK ▸ k1, hK ▸ k2, q H1 Hf1 R1 (Same.refl _) _ (.bl _)⟩
/-- isinstance(x, (S, T)) -/
def orO : Option Bool → Option Bool → Option Bool
  | some true, some _ => some true
  | some false, b => b
  | _, _ => none
theorem de_isi2 {tb1 tb2 : List (String × Bool)} {ow1 ow2 : List (Str × Bool)} {o1 : Opd} {c1 c2 : V} {u1 u2 : Value} {b1 b2 : Expr} {k3 : Nat} {p3 : Pos} (ha : DO G X W a o1) (kf1 : KitF G u1 tb1 ow1) (kf2 : KitF G u2 tb2 ow2) (hc1 : ClsV c1 u1) (hc2 : ClsV c2 u2) (h1 : PE X b1 (tC c1)) (h2 : PE X b2 (tC c2)) (hg : Gl X "isinstance") (hm : X.mg "isinstance" = none) (hK : X.K = G.K := by rfl)
    (he2 : starEach [b2] X.env = (false, eval b2 X.env) :: starEach [] X.env := by rfl) (he1 : starEach [b1, b2] X.env = (false, eval b1 X.env) :: starEach [b2] X.env := by rfl)
    (he0 : starEach [.Tuple [b1, b2] k3 p3] X.env = (false, eval (.Tuple [b1, b2] k3 p3) X.env) :: starEach [] X.env := by rfl) (he : starEach [a, .Tuple [b1, b2] k3 p3] X.env = (false, eval a X.env) :: starEach [.Tuple [b1, b2] k3 p3] X.env := by rfl) (hpl : (backTo pos (starEach [.Tuple [b1, b2] k3 p3] X.env)).any (·.1) = false := by rfl) :
    DE G X W (.Call (.Name "isinstance" p) [a, .Tuple [b1, b2] k3 p3] [] pos) (fun ρ => (o1.ev ρ).bind fun a ρ1 => Rs.lift (((a.dat ρ1).bind fun d => orO (isiD tb1 ow1 d) (isiD tb2 ow2 d)).map D.bl) ρ1) := by
  obtain ⟨t1, p1, q1⟩ := ha
  refine DE.intro ⟨_, pe_callB call_isiT hg hm (by decide +kernel) (pa_cons p1 (pa_cons (pe_tup (pa_cons h1 (pa_cons h2 pa_nil he2) he1)) pa_nil he0) he) (by decide) (by decide) he hpl, fun F σ H Hf ρ Q R p => ?_⟩
  refine q1 F σ H Hf ρ _ R ((PostE.bind p).imp fun a1 H1 Hf1 ρ1 _ R1 s1 p v r => ?_)
  obtain ⟨d, hd, q⟩ := lift_post (H := H1) p
  obtain ⟨bb, h3, rfl⟩ := Option.map_eq_some_iff.mp hd
  obtain ⟨d, h3, h4⟩ := Option.bind_eq_some_iff.mp h3
  refine ⟨(by show 2 ≤ sizeLine; decide), fun T nT => ?_⟩
  have R2 := R1.side nT (.tup [c1, c2])
  have rr := ((ArgOk.rq R1 r h3).rp R1.sub).mono (Same.new (o := .tup [c1, c2]) nT)
  obtain ⟨x1, x2, hx1, hx2, hxx⟩ : ∃ x1 x2, isiD tb1 ow1 d = some x1 ∧ isiD tb2 ow2 d = some x2 ∧ bb = (x1 || x2) := by
    cases e1 : isiD tb1 ow1 d with
    | none => rw [e1] at h4; cases h4
    | some x1 =>
      rw [e1] at h4
      cases e2 : isiD tb2 ow2 d with
      | none => rw [e2] at h4; cases x1 <;> cases h4
      | some x2 => rw [e2] at h4; cases x1 <;> cases h4 <;> exact ⟨_, _, rfl, rfl, rfl⟩
  obtain ⟨t, k0, k2, k1⟩ := isi_ok kf1 hx1
  have k1 := k1 rr
  obtain ⟨t', k0', k2', _⟩ := isi_ok kf2 hx2
  obtain rfl : t = t' := Option.some.inj (k0.symm.trans k0')
  refine ⟨v, T, [c1, c2], t, [u1, u2], bb, rfl, upd_same, .cons hc1 (.cons hc2 .nil), hK ▸ k1, ?_, q _ _ R2 (Same.refl _) _ (.bl _)⟩
  rw [hK, hxx]
  refine kitAny_cons k2 (fun z => ?_) (fun z => by rw [z]; rfl)
  rw [z, Bool.false_or]
  exact kitAny_cons k2' (fun z => by rw [z]; rfl) (fun z => z)
end
end Spk

/-! list(zip(xs, ys)) of two lists -/
namespace Spk
open PySem PySem.Spec PyProof.Rows L2
theorem zip_len0 : typeLookup (.type "zip") "__len__" = pure none := am_miss_of_fast (by decide +kernel)
theorem zip_hint0 : typeLookup (.type "zip") "__length_hint__" = pure none := am_miss_of_fast (by decide +kernel)
/-- a zip that gave i tuples, the first of them at T and still there -/
structure ZSt (h : Heap) (z TI TO i1 i2 l1 l2 : Addr) (xs ys : Array Value) (i : Nat) (last : Option Addr) : Prop where
  zz : (last = none ∧ IsZip h z TI TO .none ∧ ∃ a b, IsPair h TO a b) ∨ ∃ T f o, last = some T ∧ IsZipHeld h z TI TO T f ∧ h.get? T = some o
  tO : ∃ o, h.get? TO = some o
  ti : IsPair h TI (.ref i1) (.ref i2)
  j1 : h.IsListIter i1 l1 i
  j2 : h.IsListIter i2 l2 i
  a1 : h.IsList l1 xs
  a2 : h.IsList l2 ys
/-- what was given: the tuple at the j-th address -/
def Given (h : Heap) (xs ys : Array Value) (Ts : List Addr) : Prop := ∀ (j : Nat) (T : Addr), Ts[j]? = some T → ∃ x y, xs[j]? = some x ∧ ys[j]? = some y ∧ IsPair h T x y
section
variable {P : Program} {w : World} {A : Around} {R : Result → Shared → Prop} {z TI TO i1 i2 l1 l2 S : Addr} {xs ys : Array Value}
theorem nextZ {Q : Option Value → Shared → Prop} {E : Value → Shared → Prop} {s : Shared} {i : Nat} {last : Option Addr} (hh : A.handled = none) (D : ZipApart z TI TO i1 i2 l1 l2) (Z : ZSt s.heap z TI TO i1 i2 l1 l2 xs ys i last) (nl : ∀ T, last = some T → T ≠ z ∧ T ≠ i1 ∧ T ≠ i2)
    (q1 : ∀ h' x y, xs[i]? = some x → ys[i]? = some y → ZSt h' z TI TO i1 i2 l1 l2 xs ys (i + 1) (some (last.getD s.heap.objs.size)) → IsPair h' s.heap.objs.size x y → h'.objs.size = s.heap.objs.size + 1 → (∀ c o, c ≠ z → c ≠ TO → c ≠ i1 → c ≠ i2 → s.heap.get? c = some o → h'.get? c = some o) → Q (some (.ref s.heap.objs.size)) { s with heap := h' })
    (q2 : ∀ h', xs[i]? = none ∨ ys[i]? = none → (∀ c o, c ≠ z → c ≠ TO → c ≠ i1 → c ≠ i2 → s.heap.get? c = some o → h'.get? c = some o) → Q none { s with heap := h' }) :
    wpAny (model P w) A (pyNext (.ref z)) Q E s := by
  obtain ⟨zz, tO, ti, j1, j2, a1, a2⟩ := Z
  have l1' : ∀ {h' : Heap}, (∀ c o, c ≠ z → c ≠ TO → c ≠ i1 → c ≠ i2 → s.heap.get? c = some o → h'.get? c = some o) → h'.IsList l1 xs := fun k => a1.at fun o e => k _ o D.l1z D.l1TO D.l1i1 D.l1i2 e
  have l2' : ∀ {h' : Heap}, (∀ c o, c ≠ z → c ≠ TO → c ≠ i1 → c ≠ i2 → s.heap.get? c = some o → h'.get? c = some o) → h'.IsList l2 ys := fun k => a2.at fun o e => k _ o D.l2z D.l2TO D.l2i1 D.l2i2 e
  cases hx : xs[i]? with
  | none =>
    rcases zz with ⟨rfl, hz, a, b, ho⟩ | ⟨T, f, o, rfl, hz, hT⟩
    · exact wpAny_pyNext_zip_end hh D hz ti ho j1 j2 a1 a2 (.inl hx) fun h' k => q2 h' (.inl hx) k
    · exact wpAny_pyNext_zip_end_held hh D hz hT ti j1 j2 a1 a2 (.inl hx) fun h' k => q2 h' (.inl hx) fun c o c1 _ c3 c4 e => k c o c1 c3 c4 e
  | some x =>
    cases hy : ys[i]? with
    | none =>
      rcases zz with ⟨rfl, hz, a, b, ho⟩ | ⟨T, f, o, rfl, hz, hT⟩
      · exact wpAny_pyNext_zip_end hh D hz ti ho j1 j2 a1 a2 (.inr hy) fun h' k => q2 h' (.inr hy) k
      · exact wpAny_pyNext_zip_end_held hh D hz hT ti j1 j2 a1 a2 (.inr hy) fun h' k => q2 h' (.inr hy) fun c o c1 _ c3 c4 e => k c o c1 c3 c4 e
    | some y =>
      rcases zz with ⟨rfl, hz, a, b, ho⟩ | ⟨T, f, o, rfl, hz, hT⟩
      · exact wpAny_pyNext_zip_item D hz ti ho j1 j2 a1 a2 hx hy fun h' b1 b2 b3 b4 b5 b6 k => q1 h' x y hx hy ⟨.inr ⟨_, false, _, rfl, b1, b5⟩, ⟨_, b2⟩, k _ _ D.TIz D.TITO D.TIi1 D.TIi2 ti, b3, b4, l1' k, l2' k⟩ b5 b6 k
      · refine wpAny_pyNext_zip_item_held D hz hT ti j1 j2 a1 a2 hx hy fun h' b1 b3 b4 b5 b6 k => ?_
        have k' : ∀ c o, c ≠ z → c ≠ TO → c ≠ i1 → c ≠ i2 → s.heap.get? c = some o → h'.get? c = some o := fun c o c1 _ c3 c4 e => k c o c1 c3 c4 e
        obtain ⟨t1, t2, t3⟩ := nl T rfl
        obtain ⟨u, hu⟩ := tO
        exact q1 h' x y hx hy ⟨.inr ⟨T, true, _, rfl, b1, k _ _ t1 t2 t3 hT⟩, ⟨u, k _ _ D.TOz D.TOi1 D.TOi2 hu⟩, k _ _ D.TIz D.TIi1 D.TIi2 ti, b3, b4, l1' k', l2' k'⟩ b5 b6 k'
theorem ZSt.keep {h h' : Heap} {i : Nat} {last : Option Addr} (Z : ZSt h z TI TO i1 i2 l1 l2 xs ys i last) (hS : S ∉ [z, TI, TO, i1, i2, l1, l2]) (hl : last ≠ some S) (k : ∀ b o, b ≠ S → h.get? b = some o → h'.get? b = some o) : ZSt h' z TI TO i1 i2 l1 l2 xs ys i last := by
  obtain ⟨zz, ⟨u, hu⟩, ti, j1, j2, a1, a2⟩ := Z
  simp only [List.mem_cons, List.not_mem_nil, or_false, not_or] at hS
  obtain ⟨n1, n2, n3, n4, n5, n6, n7⟩ := hS
  refine ⟨?_, ⟨u, k _ _ (Ne.symm n3) hu⟩, k _ _ (Ne.symm n2) ti, j1.at fun o e => k _ o (Ne.symm n4) e, j2.at fun o e => k _ o (Ne.symm n5) e, a1.at fun o e => k _ o (Ne.symm n6) e, a2.at fun o e => k _ o (Ne.symm n7) e⟩
  rcases zz with ⟨e, hz, a, b, ho⟩ | ⟨T, f, o, e, hz, hT⟩
  · exact .inl ⟨e, k _ _ (Ne.symm n1) hz, a, b, k _ _ (Ne.symm n3) ho⟩
  · exact .inr ⟨T, f, o, e, k _ _ (Ne.symm n1) hz, k _ _ (fun q => hl (by rw [e, q])) hT⟩
theorem loopZ (hh : A.handled = none) (D : ZipApart z TI TO i1 i2 l1 l2) (hS : S ∉ [z, TI, TO, i1, i2, l1, l2]) (res : Value) (hn : min xs.size ys.size ≤ sizeLine) (h0 : Heap) (m0 : Nat)
    (n0 : ∀ b o, h0.get? b = some o → b ∉ [z, TO, i1, i2, S]) :
    ∀ (k : Nat) (s : Shared) (Ts : List Addr) (c : Nat), min xs.size ys.size - Ts.length = k → Ts.length ≤ min xs.size ys.size → ZSt s.heap z TI TO i1 i2 l1 l2 xs ys Ts.length Ts.head? →
      s.heap.get? S = some { cls := .type "list", dict := none, data := .seq (Ts.map Value.ref).toArray c, slots := #[] } → Given s.heap xs ys Ts → Ts.Nodup → (∀ T ∈ Ts, m0 ≤ T ∧ T ∉ [z, TO, i1, i2, S] ∧ T < s.heap.objs.size) → (∀ b o, h0.get? b = some o → s.heap.get? b = some o) → m0 ≤ s.heap.objs.size →
      (∀ h' Ts c, Ts.length = min xs.size ys.size → h'.get? S = some { cls := .type "list", dict := none, data := .seq (Ts.map Value.ref).toArray c, slots := #[] } → Given h' xs ys Ts → Ts.Nodup → (∀ T ∈ Ts, m0 ≤ T ∧ T ≠ S) → (∀ b o, h0.get? b = some o → h'.get? b = some o) → R (.ok (.ret res)) { s with heap := h' }) →
      codeAny (model P w) A (.builtin "list.extend.loop" ⟨[.ref S, .ref z, res], []⟩) R s := by
  have nS : S ≠ z ∧ S ≠ TO ∧ S ≠ i1 ∧ S ≠ i2 := by
    simp only [List.mem_cons, List.not_mem_nil, or_false, not_or] at hS
    exact ⟨hS.1, hS.2.2.1, hS.2.2.2.1, hS.2.2.2.2.1⟩
  have five : ∀ {b : Addr}, b ∉ [z, TO, i1, i2, S] → b ≠ z ∧ b ≠ TO ∧ b ≠ i1 ∧ b ≠ i2 ∧ b ≠ S := fun h => by
    simp only [List.mem_cons, List.not_mem_nil, or_false, not_or] at h
    exact h
  intro k
  induction k with
  | zero =>
    intro s Ts c hk hi Z hs gv nd new kp ms q
    have hd : ∀ T, Ts.head? = some T → T ≠ z ∧ T ≠ i1 ∧ T ≠ i2 := fun T e => by
      obtain ⟨m1, _, m3, m4, _⟩ := five (new T (List.mem_of_head? e)).2.1
      exact ⟨m1, m3, m4⟩
    refine codeAny_builtin F.entry_extend_loop ?_
    rw [Around.under_plainId F.plain_extend_loop _]
    refine (show wpAny _ A.in1 (pyNext (.ref z) >>= _) _ _ s from wpAny_bind (nextZ (by simp [hh]) D Z hd (fun h' x y hx hy _ _ _ _ => ?_) fun h' _ kz => ?_))
    · have b1 := (Array.getElem?_eq_some_iff.mp hx).1
      have b2 := (Array.getElem?_eq_some_iff.mp hy).1
      omega
    · refine wpAny_pure (q h' Ts c (by omega) (kz _ _ nS.1 nS.2.1 nS.2.2.1 nS.2.2.2 hs) (fun j T e => ?_) nd (fun T hT => ⟨(new T hT).1, (five (new T hT).2.1).2.2.2.2⟩) fun b o e => ?_)
      · obtain ⟨x, y, e1, e2, e3⟩ := gv j T e
        obtain ⟨m1, m2, m3, m4, _⟩ := five (new T (List.mem_of_getElem? e)).2.1
        exact ⟨x, y, e1, e2, kz _ _ m1 m2 m3 m4 e3⟩
      · obtain ⟨m1, m2, m3, m4, _⟩ := five (n0 b o e)
        exact kz _ _ m1 m2 m3 m4 (kp b o e)
  | succ k ih =>
    intro s Ts c hk hi Z hs gv nd new kp ms q
    have hd : ∀ T, Ts.head? = some T → T ≠ z ∧ T ≠ i1 ∧ T ≠ i2 := fun T e => by
      obtain ⟨m1, _, m3, m4, _⟩ := five (new T (List.mem_of_head? e)).2.1
      exact ⟨m1, m3, m4⟩
    refine codeAny_builtin F.entry_extend_loop ?_
    rw [Around.under_plainId F.plain_extend_loop _]
    refine (show wpAny _ A.in1 (pyNext (.ref z) >>= _) _ _ s from wpAny_bind (nextZ (by simp [hh]) D Z hd (fun h' x y hx hy Z' hp hz kz => ?_) fun h' hend _ => ?_))
    · have lt : ∀ {b o}, s.heap.get? b = some o → b ≠ s.heap.objs.size := fun e => Nat.ne_of_lt (Heap.lt_size e)
      have nST : S ≠ s.heap.objs.size := lt hs
      have hs' := kz _ _ nS.1 nS.2.1 nS.2.2.1 nS.2.2.2 hs
      have oth : ∀ b o, b ≠ S → h'.get? b = some o → (h'.update S (Obj.mapSeq (·.push (Value.ref s.heap.objs.size)))).get? b = some o := fun b o ne e => (Heap.get?_update_other _ _ (Ne.symm ne)).trans e
      have hs2 := Heap.get?_update_self (Obj.mapSeq (·.push (Value.ref s.heap.objs.size))) hs' rfl
      have szT : (h'.update S (Obj.mapSeq (·.push (Value.ref s.heap.objs.size)))).objs.size = s.heap.objs.size + 1 := by rw [Heap.size_update, hz]
      have hlast : (Ts ++ [s.heap.objs.size]).head? = some (Ts.head?.getD s.heap.objs.size) := by cases Ts <;> rfl
      have hlen : (Ts ++ [s.heap.objs.size]).length = Ts.length + 1 := by simp
      have keep0 : ∀ b o, h0.get? b = some o → (h'.update S (Obj.mapSeq (·.push (Value.ref s.heap.objs.size)))).get? b = some o := fun b o e => by
        obtain ⟨m1, m2, m3, m4, m5⟩ := five (n0 b o e)
        exact oth b o m5 (kz _ _ m1 m2 m3 m4 (kp b o e))
      have Z2 : ZSt (h'.update S (Obj.mapSeq (·.push (Value.ref s.heap.objs.size)))) z TI TO i1 i2 l1 l2 xs ys (Ts ++ [s.heap.objs.size]).length (Ts ++ [s.heap.objs.size]).head? := by
        rw [hlast, hlen]
        refine Z'.keep hS (fun z => ?_) oth
        have z := Option.some.inj z
        cases Ts with
        | nil => exact nST z.symm
        | cons T r => exact (five (new T List.mem_cons_self).2.1).2.2.2.2 z
      have gv2 : Given (h'.update S (Obj.mapSeq (·.push (Value.ref s.heap.objs.size)))) xs ys (Ts ++ [s.heap.objs.size]) := fun j T e => by
        by_cases hj : j < Ts.length
        · rw [List.getElem?_append_left hj] at e
          obtain ⟨x', y', e1, e2, e3⟩ := gv j T e
          obtain ⟨m1, m2, m3, m4, m5⟩ := five (new T (List.mem_of_getElem? e)).2.1
          exact ⟨x', y', e1, e2, oth _ _ m5 (kz _ _ m1 m2 m3 m4 e3)⟩
        · rw [List.getElem?_append_right (Nat.le_of_not_lt hj)] at e
          have ej : j = Ts.length := by
            have := (List.getElem?_eq_some_iff.mp e).1
            simp at this
            omega
          subst ej
          rw [Nat.sub_self] at e
          obtain rfl := (Option.some.inj e).symm
          exact ⟨x, y, hx, hy, oth _ _ (Ne.symm nST) hp⟩
      have nd2 : (Ts ++ [s.heap.objs.size]).Nodup := by
        rw [List.nodup_append]
        exact ⟨nd, by simp, fun a ha b hb e => by rw [List.mem_singleton.mp hb] at e; exact Nat.ne_of_lt (new a ha).2.2 e⟩
      have new2 : ∀ T ∈ Ts ++ [s.heap.objs.size], m0 ≤ T ∧ T ∉ [z, TO, i1, i2, S] ∧ T < (h'.update S (Obj.mapSeq (·.push (Value.ref s.heap.objs.size)))).objs.size := fun T hT => by
        rw [szT]
        rcases List.mem_append.mp hT with hT | hT
        · exact ⟨(new T hT).1, (new T hT).2.1, Nat.lt_succ_of_lt (new T hT).2.2⟩
        · rw [List.mem_singleton.mp hT]
          refine ⟨?_, ?_, Nat.lt_succ_self _⟩
          · exact ms
          · have zg : ∃ o, s.heap.get? z = some o := by
              rcases Z.zz with ⟨_, e, _⟩ | ⟨_, _, _, _, e, _⟩
              · exact ⟨_, e⟩
              · exact ⟨_, e⟩
            obtain ⟨o1, e1⟩ := zg
            obtain ⟨o2, e2⟩ := Z.tO
            obtain ⟨o3, e3, _⟩ := Z.j1
            obtain ⟨o4, e4, _⟩ := Z.j2
            simp only [List.mem_cons, List.not_mem_nil, or_false, not_or]
            exact ⟨Ne.symm (lt e1), Ne.symm (lt e2), Ne.symm (lt e3), Ne.symm (lt e4), Ne.symm nST⟩
      obtain ⟨c2, hs3⟩ : ∃ c2, (h'.update S (Obj.mapSeq (·.push (Value.ref s.heap.objs.size)))).get? S = some { cls := .type "list", dict := none, data := .seq ((Ts ++ [s.heap.objs.size]).map Value.ref).toArray c2, slots := #[] } := by
        refine ⟨c + 1, hs2.trans ?_⟩
        rw [List.map_append]
        simp [Obj.mapSeq]
      refine (show wpAny _ A.in1 (updateSeq S (·.push (Value.ref s.heap.objs.size)) >>= _) _ _ _ from wpAny_bind (wpAny_updateSeq hs' rfl (wpAny_pure ⟨plainId_quiet F.plain_extend_loop _, ih _ (Ts ++ [s.heap.objs.size]) c2 (by rw [hlen]; omega) (by rw [hlen]; omega) Z2 hs3 gv2 nd2 new2 keep0 (by rw [szT]; omega) q⟩) (by simp; omega) (by simp; omega)))
    · exfalso
      rcases hend with e | e
      · have := Array.getElem?_eq_none_iff.mp e
        omega
      · have := Array.getElem?_eq_none_iff.mp e
        omega
theorem extZ {s : Shared} {E' : Value → Shared → Prop} (hh : A.handled = none) (D : ZipApart z TI TO i1 i2 l1 l2) (hS : S ∉ [z, TI, TO, i1, i2, l1, l2]) (hn : min xs.size ys.size ≤ sizeLine) (h0 : Heap) (m0 : Nat)
    (n0 : ∀ b o, h0.get? b = some o → b ∉ [z, TO, i1, i2, S]) (Z : ZSt s.heap z TI TO i1 i2 l1 l2 xs ys 0 none) {c : Nat} (hs : s.heap.get? S = some { cls := .type "list", dict := none, data := .seq #[] c, slots := #[] }) (kp : ∀ b o, h0.get? b = some o → s.heap.get? b = some o) (ms : m0 ≤ s.heap.objs.size)
    (q : ∀ h' Ts c, Ts.length = min xs.size ys.size → h'.get? S = some { cls := .type "list", dict := none, data := .seq (Ts.map Value.ref).toArray c, slots := #[] } → Given h' xs ys Ts → Ts.Nodup → (∀ T ∈ Ts, m0 ≤ T ∧ T ≠ S) → (∀ b o, h0.get? b = some o → h'.get? b = some o) → R (.ok (.ret .none)) { s with heap := h' }) :
    wpAny (model P w) A.in1 (Builtin.List.listExtendWith (.ref S) (.ref z) .none) (fun fin t => match fin with | .done f => R (.ok f) t | .again k => k.quiet = true ∧ codeAny (model P w) A k R t) E' s := by
  have nz : S ≠ z := fun e => hS (by simp [e])
  have tz : s.TypeIs (.ref z) "zip" := by
    rcases Z.zz with ⟨_, e, _⟩ | ⟨_, _, _, _, e, _⟩ <;> exact ⟨_, e, rfl⟩
  unfold Builtin.List.listExtendWith
  refine wpAny_bind (wpAny_typeOf tz ?_)
  have b1 : Builtin.List.listSameRef (.ref S) (.ref z) = false := by simp [Builtin.List.listSameRef, nz]
  have b2 : (Value.type "zip" == Value.type "list") = false := by decide
  have b3 : (Value.type "zip" == Value.type "tuple") = false := by decide
  simp only [b1, b2, b3, Bool.or_false, Bool.false_eq_true, if_false]
  obtain ⟨f0, hz⟩ : ∃ f0, IsZip s.heap z TI TO f0 := by
    rcases Z.zz with ⟨_, e, _⟩ | ⟨_, _, _, e, _⟩
    · exact ⟨_, e⟩
    · cases e
  refine wpAny_bind (wpAny_pyIter_zip hz (wpAny_bind (wpAny_holding ?_)))
  unfold Builtin.List.listLengthHint
  refine wpAny_bind (wpAny_specialOf tz zip_len0 (show wpAny _ _ (specialOf (Value.ref z) (Str.ofString "__length_hint__") >>= _) _ _ _ from wpAny_bind (wpAny_specialOf tz zip_hint0 (wpAny_pure ?_))))
  refine (show wpAny _ _ (rule "list.extend.makes-room" >>= _) _ _ _ from wpAny_bind (wpAny_rule (wpAny_bind ?_)))
  refine (show wpAny _ _ (updateSeq S (·.push .none) >>= _) _ _ _ from wpAny_bind (wpAny_updateSeq hs rfl ?_))
  have hs2 := Heap.get?_update_self (Obj.mapSeq (·.push Value.none)) hs rfl
  refine (show wpAny _ _ (updateSeq S (·.pop)) _ _ _ from wpAny_updateSeq (hz := by seq_fits) hs2 rfl ?_)
  have hs3 := Heap.get?_update_self (Obj.mapSeq (·.pop)) hs2 rfl
  have oth : ∀ b o, b ≠ S → s.heap.get? b = some o → ((s.heap.update S (Obj.mapSeq (·.push Value.none))).update S (Obj.mapSeq (·.pop))).get? b = some o := fun b o n e =>
    (Heap.get?_update_other _ _ (Ne.symm n)).trans ((Heap.get?_update_other _ _ (Ne.symm n)).trans e)
  refine wpAny_pure ⟨plainId_quiet F.plain_extend_loop _, loopZ hh D hS .none hn h0 m0 n0 _ _ [] (c + 1 + 1) rfl (Nat.zero_le _) (Z.keep hS (fun e => nomatch e) oth) ?_ (fun j T e => by simp at e) List.nodup_nil (fun T hT => nomatch hT) (fun b o e => oth b o (fun z => n0 b o e (by simp [z])) (kp b o e)) (by rw [Heap.size_update, Heap.size_update]; exact ms) q⟩
  exact hs3
theorem listZip {s : Shared} {Q : Value → Shared → Prop} {E : Value → Shared → Prop} (hh : A.handled = none) (D : ZipApart z TI TO i1 i2 l1 l2) (hn : min xs.size ys.size ≤ sizeLine) (h0 : Heap) (m0 : Nat)
    (n0 : ∀ b o, h0.get? b = some o → b ∉ [z, TO, i1, i2]) (Z : ZSt s.heap z TI TO i1 i2 l1 l2 xs ys 0 none) (kp : ∀ b o, h0.get? b = some o → s.heap.get? b = some o) (big : ∀ b ∈ [z, TI, TO, i1, i2, l1, l2], b < s.heap.objs.size) (ms : m0 ≤ s.heap.objs.size)
    (q : ∀ h' Ts c, Ts.length = min xs.size ys.size → h'.get? s.heap.objs.size = some { cls := .type "list", dict := none, data := .seq (Ts.map Value.ref).toArray c, slots := #[] } → Given h' xs ys Ts → Ts.Nodup → (∀ T ∈ Ts, m0 ≤ T ∧ T ≠ s.heap.objs.size) → (∀ b o, h0.get? b = some o → h'.get? b = some o) → Q (.ref s.heap.objs.size) { s with heap := h' }) :
    wpAny (model P w) A (call (.type "list") [.ref z]) Q E s := by
  have hS : s.heap.objs.size ∉ [z, TI, TO, i1, i2, l1, l2] := fun m => Nat.lt_irrefl _ (big _ m)
  have lt0 : ∀ b o, h0.get? b = some o → b ≠ s.heap.objs.size := fun b o e => Nat.ne_of_lt (Heap.lt_size (kp b o e))
  refine callType_codes (Q₁ := fun v t => v = .ref s.heap.objs.size ∧ t = { s with heap := s.heap.push { cls := .type "list", data := .seq #[] } }) F.called_list (F.typeCall_list_1 _) F.entry_list_init (code_list_new _ ⟨rfl, rfl⟩) fun v t ht => ?_
  obtain ⟨rfl, rfl⟩ := ht
  have g0 : (s.heap.push { cls := .type "list", data := .seq #[] }).get? s.heap.objs.size = some { cls := .type "list", data := .seq #[] } := Heap.get?_push_size _ rfl
  refine ⟨⟨_, g0, rfl⟩, F.args_list_init_2 _ _, ?_⟩
  refine (show wpAny _ _ (Builtin.List.listItems (.ref s.heap.objs.size) >>= _) _ _ _ from wpAny_bind ?_)
  unfold Builtin.List.listItems
  refine wpAny_bind (wpAny_seqItems g0 rfl (wpAny_pure ?_))
  refine (show wpAny _ _ (updateSeq s.heap.objs.size (fun _ => #[]) >>= _) _ _ _ from wpAny_bind (wpAny_updateSeq g0 rfl (wpAny_bind (wpAny_letGo ?_))))
  have g1 := Heap.get?_update_self (Obj.mapSeq (fun _ => (#[] : Array Value))) g0 rfl
  have oth : ∀ b o, b ≠ s.heap.objs.size → s.heap.get? b = some o → ((s.heap.push { cls := .type "list", data := .seq #[] }).update s.heap.objs.size (Obj.mapSeq (fun _ => (#[] : Array Value)))).get? b = some o := fun b o n e =>
    (Heap.get?_update_other _ _ (Ne.symm n)).trans (Heap.get?_push_of_some _ e)
  exact extZ (s := { s with heap := (s.heap.push { cls := .type "list", data := .seq #[] }).update s.heap.objs.size (Obj.mapSeq (fun _ => (#[] : Array Value))) }) (R := wants (fun r t => r = .none ∧ Q (.ref s.heap.objs.size) t) E) (by simp [hh]) D hS hn h0 m0
    (fun b o e m => by
      rcases List.mem_append.mp (show b ∈ [z, TO, i1, i2] ++ [s.heap.objs.size] from m) with m | m
      · exact n0 b o e m
      · exact lt0 b o e (List.mem_singleton.mp m)) (Z.keep hS (fun e => nomatch e) oth) g1 (fun b o e => oth b o (lt0 b o e) (kp b o e)) (by rw [Heap.size_update, Heap.size_push]; exact Nat.le_succ_of_le ms) fun h' Ts c a1 a2 a3 a4 a5 a6 => ⟨rfl, q h' Ts c a1 a2 a3 a4 a5 a6⟩
end
end Spk
namespace Spk
open PySem PySem.Spec PyProof.Rows L2
/-! ### the rule -/
theorem look_put {α : Type} : ∀ {Ts : List Addr} {ws : List α} {j : Nat} {T : Addr} {w : α}, Ts.Nodup → Ts[j]? = some T → ws[j]? = some w → List.lookup T (Ts.zip ws) = some w
  | [], _, _, _, _, _, h, _ => by simp at h
  | _ :: _, [], _, _, _, _, _, h => by simp at h
  | t :: Ts, u :: ws, 0, T, w, _, h1, h2 => by
    obtain rfl := Option.some.inj h1
    obtain rfl := Option.some.inj h2
    simp [List.lookup]
  | t :: Ts, u :: ws, j + 1, T, w, nd, h1, h2 => by
    have h1 : Ts[j]? = some T := by simpa using h1
    have h2 : ws[j]? = some w := by simpa using h2
    have ne : (T == t) = false := by
      rw [beq_eq_false_iff_ne]
      rintro rfl
      exact (List.nodup_cons.mp nd).1 (List.mem_of_getElem? h1)
    rw [List.zip_cons_cons, List.lookup, ne]
    exact look_put (List.nodup_cons.mp nd).2 h1 h2
theorem look_get {α : Type} : ∀ {Ts : List Addr} {ws : List α} {T : Addr} {w : α}, List.lookup T (Ts.zip ws) = some w → ∃ j : Nat, Ts[j]? = some T ∧ ws[j]? = some w
  | [], _, _, _, h => by simp [List.lookup] at h
  | _ :: _, [], _, _, h => by simp [List.lookup] at h
  | t :: Ts, u :: ws, T, w, h => by
    rw [List.zip_cons_cons, List.lookup] at h
    by_cases e : (T == t) = true
    · rw [e] at h
      exact ⟨0, by simp [beq_iff_eq.mp e], by simpa using h⟩
    · rw [Bool.eq_false_iff.mpr e] at h
      obtain ⟨j, h1, h2⟩ := look_get h
      exact ⟨j + 1, by simpa using h1, by simpa using h2⟩
theorem vals_addrs : ∀ Ts : List Addr, Vals (Ts.map V.ref) (Ts.map Value.ref)
  | [] => .nil
  | _ :: Ts => .cons rfl (vals_addrs Ts)
theorem vals_ref2 {a b : Addr} : ∀ {us : List Value}, Vals [.ref a, .ref b] us → us = [.ref a, .ref b]
  | _, .cons (b := u) e1 r => by
    obtain rfl : u = .ref a := e1
    rw [Vals.ref1 r]
/-- the heap with a new list at r of new tuples -/
def zipHp (H : Hp) (r : Addr) (Ts : List Addr) (xs ys : List V) : Hp := fun b => if b = r then some (.lst (Ts.map V.ref)) else (List.lookup b (Ts.zip (List.zipWith (fun x y => HO.tup [x, y]) xs ys))).or (H b)
theorem zipHp_r {H : Hp} {r : Addr} {Ts : List Addr} {xs ys : List V} : zipHp H r Ts xs ys r = some (.lst (Ts.map V.ref)) := if_pos rfl
theorem zipHp_t {H : Hp} {r T : Addr} {Ts : List Addr} {xs ys : List V} {x y : V} {j : Nat} (nd : Ts.Nodup) (nr : T ≠ r) (e : Ts[j]? = some T) (ex : xs[j]? = some x) (ey : ys[j]? = some y) : zipHp H r Ts xs ys T = some (.tup [x, y]) := by
  have l := look_put (ws := List.zipWith (fun x y => HO.tup [x, y]) xs ys) nd e (by rw [List.getElem?_zipWith, ex, ey])
  exact (if_neg nr).trans (by rw [l]; exact Option.some_or)
theorem zipHp_o {H : Hp} {r c : Addr} {Ts : List Addr} {xs ys : List V} (nr : c ≠ r) (nT : c ∉ Ts) : zipHp H r Ts xs ys c = H c := by
  have l : List.lookup c (Ts.zip (List.zipWith (fun x y => HO.tup [x, y]) xs ys)) = none := by
    cases e : List.lookup c (Ts.zip (List.zipWith (fun x y => HO.tup [x, y]) xs ys)) with
    | none => rfl
    | some w =>
      obtain ⟨j, e1, _⟩ := look_get e
      exact absurd (List.mem_of_getElem? e1) nT
  exact (if_neg nr).trans (by rw [l]; exact Option.none_or)
theorem zipHp_inv {H : Hp} {r c : Addr} {Ts : List Addr} {xs ys : List V} {u : HO} (h : zipHp H r Ts xs ys c = some u) : (c = r ∧ u = .lst (Ts.map V.ref)) ∨ (∃ (j : Nat) (x y : V), Ts[j]? = some c ∧ xs[j]? = some x ∧ ys[j]? = some y ∧ u = .tup [x, y]) ∨ H c = some u := by
  by_cases cr : c = r
  · subst cr
    exact .inl ⟨rfl, (Option.some.inj (zipHp_r.symm.trans h)).symm⟩
  · have h : (List.lookup c (Ts.zip (List.zipWith (fun x y => HO.tup [x, y]) xs ys))).or (H c) = some u := (if_neg cr).symm.trans h
    cases lk : List.lookup c (Ts.zip (List.zipWith (fun x y => HO.tup [x, y]) xs ys)) with
    | none =>
      rw [lk, Option.none_or] at h
      exact .inr (.inr h)
    | some w =>
      rw [lk, Option.some_or] at h
      obtain rfl := Option.some.inj h
      obtain ⟨j, e1, e2⟩ := look_get lk
      rw [List.getElem?_zipWith] at e2
      cases ex : xs[j]? with
      | none => rw [ex] at e2; cases e2
      | some x =>
        cases ey : ys[j]? with
        | none => rw [ex, ey] at e2; cases e2
        | some y =>
          rw [ex, ey] at e2
          exact .inr (.inl ⟨j, x, y, e1, ex, ey, (Option.some.inj e2).symm⟩)
section
variable {X : Cx}
def tLstZip (K : PySem.W.Frag) (ta : TA) : TE := fun σ H Q => ta σ H fun vs H1 => ∃ a b xs ys, vs = [.ref a, .ref b] ∧ SqL K H1 a xs ∧ SqL K H1 b ys ∧
  ∀ (r : Addr) (ts : List Addr) (H' : Hp), H1 r = none → H' r = some (.lst (ts.map V.ref)) → ts.length = min xs.length ys.length → (∀ (i : Nat) t, ts[i]? = some t → ∃ x y, xs[i]? = some x ∧ ys[i]? = some y ∧ H' t = some (.tup [x, y])) → Same H1 H' → Q (.ref r) H'
theorem pe_listZip {e e2 : Expr} {ta : TA} {p p2 pos pos2 : Pos} (hg : Gl X "list") (hm : X.mg "list" = none) (hg2 : Gl X "zip") (hm2 : X.mg "zip" = none) (hc : X.calm = true) (ha : PA X [e, e2] ta)
    (hs : starEach [e, e2] X.env = (false, eval e X.env) :: starEach [e2] X.env := by rfl) (hpl : (backTo pos2 (starEach [e2] X.env)).any (·.1) = false := by rfl)
    (hs2 : starEach [.Call (.Name "zip" p2) [e, e2] [] pos2] X.env = (false, eval (.Call (.Name "zip" p2) [e, e2] [] pos2) X.env) :: starEach [] X.env := by rfl) :
    PE X (.Call (.Name "list" p) [.Call (.Name "zip" p2) [e, e2] [] pos2] [] pos) (tLstZip X.K ta) := by
  refine ⟨fun pins s σ H Q I h => ?_⟩
  refine Call_ (ld_blt I hg hm boot_list (callWith_type1 (args_cons (Call_ (ld_blt I hg2 hm2 boot_zip (callWith_type1 (thn (ha.run pos2 pins s σ H _ I h) fun us s1 ⟨vs, H1, I1, r1, q1⟩ => ?_) hs hpl))) hs2) hs2 rfl))
  obtain ⟨a, b, xs, ys, rfl, sx, sy, q⟩ := q1
  obtain ⟨its, rv, p1, z1⟩ := I1.list sx
  obtain ⟨its2, rv2, p2', z2⟩ := I1.list sy
  have la : a < s1.heap.objs.size := p1.lt
  have lb : b < s1.heap.objs.size := p2'.lt
  have eus := vals_ref2 r1
  subst eus
  refine call_zip_2 p1.isList p2'.isList fun h' hz hTI hTO h1 h2 hsz hk => args_nil ?_
  have lx : its.toArray.size = xs.length := by rw [List.size_toArray, ← rv.length]
  have ly : its2.toArray.size = ys.length := by rw [List.size_toArray, ← rv2.length]
  have hn : min its.toArray.size its2.toArray.size ≤ sizeLine := by rw [lx]; exact Nat.le_trans (Nat.min_le_left ..) z1
  have old : ∀ b o, s1.heap.get? b = some o → b < s1.heap.objs.size := fun b o e => Heap.lt_size e
  refine listZip (s := { s1 with heap := h' }) (I1.ok.hd hc) (PySem.W.ktu_apart s1.heap.objs.size a b la lb) hn s1.heap s1.heap.objs.size (fun c o e m => ?_)
    ⟨.inl ⟨rfl, hz, _, _, hTO⟩, ⟨_, hTO⟩, hTI, h1, h2, p1.isList.at fun o e => hk _ _ e, p2'.isList.at fun o e => hk _ _ e⟩ hk (fun c m => ?_) (by show s1.heap.objs.size ≤ h'.objs.size; omega) fun hF Ts c a1 a2 a3 a4 a5 a6 => ?_
  · have := old c o e
    simp only [List.mem_cons, List.not_mem_nil, or_false] at m
    rcases m with m | m | m | m <;> rw [m] at this <;> first | exact Nat.lt_irrefl _ this | exact absurd this (Nat.not_lt.mpr (Nat.le_add_right _ _))
  · show c < h'.objs.size
    rw [hsz]
    simp only [List.mem_cons, List.not_mem_nil, or_false] at m
    have up : ∀ {k : Nat}, k < 5 → s1.heap.objs.size + k < s1.heap.objs.size + 5 := fun h => Nat.add_lt_add_left h _
    rcases m with m | m | m | m | m | m | m <;> rw [m]
    · exact up (by decide)
    · exact up (by decide)
    · exact up (by decide)
    · exact up (k := 0) (by decide)
    · exact up (by decide)
    · exact Nat.lt_of_lt_of_le la (Nat.le_add_right _ _)
    · exact Nat.lt_of_lt_of_le lb (Nat.le_add_right _ _)
  have fr : ∀ c, s1.heap.objs.size ≤ c → H1 c = none := fun c hc => I1.hok.fresh hc
  have mr : s1.heap.objs.size ≤ h'.objs.size := by omega
  have lT : Ts.length = min xs.length ys.length := by rw [a1, lx, ly]
  generalize h'.objs.size = r at *
  have gt : ∀ (j : Nat) T, Ts[j]? = some T → ∃ x y, xs[j]? = some x ∧ ys[j]? = some y ∧ zipHp H1 r Ts xs ys T = some (.tup [x, y]) := fun j T e => by
    have hj := (List.getElem?_eq_some_iff.mp e).1
    have j1 : j < xs.length := by omega
    have j2 : j < ys.length := by omega
    exact ⟨_, _, List.getElem?_eq_getElem j1, List.getElem?_eq_getElem j2, zipHp_t a4 (a5 T (List.mem_of_getElem? e)).2 e (List.getElem?_eq_getElem j1) (List.getElem?_eq_getElem j2)⟩
  have zo : ∀ c, c < s1.heap.objs.size → zipHp H1 r Ts xs ys c = H1 c := fun c hc => zipHp_o (Nat.ne_of_lt (Nat.lt_of_lt_of_le hc mr)) fun m => Nat.lt_irrefl _ (Nat.lt_of_lt_of_le hc (a5 c m).1)
  have zs : ∀ c u, H1 c = some u → zipHp H1 r Ts xs ys c = some u := fun c u e => (zo c (I1.hok.lt e)).trans e
  have hok : HOk X.prog X.w (zipHp H1 r Ts xs ys) hF := fun c u e => by
    rcases zipHp_inv e with ⟨rfl, rfl⟩ | ⟨j, x, y, e1, ex, ey, rfl⟩ | e
    · exact ⟨by rw [List.length_map, a1]; exact hn, _, _, vals_addrs Ts, a2⟩
    · obtain ⟨v1, v2, g1, g2, g3⟩ := a3 j c e1
      obtain ⟨w1, h1', r1⟩ := rv.get ex
      obtain ⟨w2, h2', r2⟩ := rv2.get ey
      have e3 : some w1 = some v1 := by rw [← h1', ← g1]; simp
      have e4 : some w2 = some v2 := by rw [← h2', ← g2]; simp
      obtain rfl := Option.some.inj e3
      obtain rfl := Option.some.inj e4
      exact ⟨(by show 2 ≤ sizeLine; decide), [w1, w2], .cons r1 (.cons r2 .nil), ⟨_, g3, rfl, _, rfl⟩⟩
    · exact (I1.hok c u e).stay (fun d v _ q => a6 d v q) (fun d q => zs _ _ q) fun d zs' q => zs _ _ q
  have un : Un (frs X.stack) [] H1 (zipHp H1 r Ts xs ys) s1.heap hF :=
    ⟨fun b u q _ _ _ => a6 b u q, fun b u q _ _ _ => ⟨u.slots, a6 b u q⟩, fun b u q n _ => (zo b (old _ _ q)).trans n, fun b u q _ => ⟨u, a6 b u q⟩, fun b _ q => zs _ _ q, fun b _ _ q => zs _ _ q, fun b _ q => ⟨#[], by rw [zs _ _ q]; simp⟩⟩
  have J : Inv X pins σ (zipHp H1 r Ts xs ys) { s1 with heap := hF, gens := s1.gens, drawn := s1.drawn, toks := s1.toks } := I1.call (s := s1) (ch := []) un hok I1.bare (fun _ z => nomatch z)
  exact ⟨.ref r, zipHp H1 r Ts xs ys, J, rfl, q r Ts _ (fr _ mr) zipHp_r lT gt zs⟩
end
end Spk

/-! tuple(zip(xs, ys)) of two lists -/
namespace Spk
open PySem PySem.Spec PyProof.Rows L2
section
variable {P : Program} {w : World} {A : Around} {R : Result → Shared → Prop} {z TI TO i1 i2 l1 l2 S : Addr} {xs ys : Array Value}
theorem extZr {s : Shared} {E' : Value → Shared → Prop} (hh : A.handled = none) (res : Value) (D : ZipApart z TI TO i1 i2 l1 l2) (hS : S ∉ [z, TI, TO, i1, i2, l1, l2]) (hn : min xs.size ys.size ≤ sizeLine) (h0 : Heap) (m0 : Nat)
    (n0 : ∀ b o, h0.get? b = some o → b ∉ [z, TO, i1, i2, S]) (Z : ZSt s.heap z TI TO i1 i2 l1 l2 xs ys 0 none) {c : Nat} (hs : s.heap.get? S = some { cls := .type "list", dict := none, data := .seq #[] c, slots := #[] }) (kp : ∀ b o, h0.get? b = some o → s.heap.get? b = some o) (ms : m0 ≤ s.heap.objs.size)
    (q : ∀ h' Ts c, Ts.length = min xs.size ys.size → h'.get? S = some { cls := .type "list", dict := none, data := .seq (Ts.map Value.ref).toArray c, slots := #[] } → Given h' xs ys Ts → Ts.Nodup → (∀ T ∈ Ts, m0 ≤ T ∧ T ≠ S) → (∀ b o, h0.get? b = some o → h'.get? b = some o) → R (.ok (.ret res)) { s with heap := h' }) :
    wpAny (model P w) A.in1 (Builtin.List.listExtendWith (.ref S) (.ref z) res) (fun fin t => match fin with | .done f => R (.ok f) t | .again k => k.quiet = true ∧ codeAny (model P w) A k R t) E' s := by
  have nz : S ≠ z := fun e => hS (by simp [e])
  have tz : s.TypeIs (.ref z) "zip" := by
    rcases Z.zz with ⟨_, e, _⟩ | ⟨_, _, _, _, e, _⟩ <;> exact ⟨_, e, rfl⟩
  unfold Builtin.List.listExtendWith
  refine wpAny_bind (wpAny_typeOf tz ?_)
  have b1 : Builtin.List.listSameRef (.ref S) (.ref z) = false := by simp [Builtin.List.listSameRef, nz]
  have b2 : (Value.type "zip" == Value.type "list") = false := by decide
  have b3 : (Value.type "zip" == Value.type "tuple") = false := by decide
  simp only [b1, b2, b3, Bool.or_false, Bool.false_eq_true, if_false]
  obtain ⟨f0, hz⟩ : ∃ f0, IsZip s.heap z TI TO f0 := by
    rcases Z.zz with ⟨_, e, _⟩ | ⟨_, _, _, e, _⟩
    · exact ⟨_, e⟩
    · cases e
  refine wpAny_bind (wpAny_pyIter_zip hz (wpAny_bind (wpAny_holding ?_)))
  unfold Builtin.List.listLengthHint
  refine wpAny_bind (wpAny_specialOf tz zip_len0 (show wpAny _ _ (specialOf (Value.ref z) (Str.ofString "__length_hint__") >>= _) _ _ _ from wpAny_bind (wpAny_specialOf tz zip_hint0 (wpAny_pure ?_))))
  refine (show wpAny _ _ (rule "list.extend.makes-room" >>= _) _ _ _ from wpAny_bind (wpAny_rule (wpAny_bind ?_)))
  refine (show wpAny _ _ (updateSeq S (·.push .none) >>= _) _ _ _ from wpAny_bind (wpAny_updateSeq hs rfl ?_))
  have hs2 := Heap.get?_update_self (Obj.mapSeq (·.push Value.none)) hs rfl
  refine (show wpAny _ _ (updateSeq S (·.pop)) _ _ _ from wpAny_updateSeq (hz := by seq_fits) hs2 rfl ?_)
  have hs3 := Heap.get?_update_self (Obj.mapSeq (·.pop)) hs2 rfl
  have oth : ∀ b o, b ≠ S → s.heap.get? b = some o → ((s.heap.update S (Obj.mapSeq (·.push Value.none))).update S (Obj.mapSeq (·.pop))).get? b = some o := fun b o n e =>
    (Heap.get?_update_other _ _ (Ne.symm n)).trans ((Heap.get?_update_other _ _ (Ne.symm n)).trans e)
  refine wpAny_pure ⟨plainId_quiet F.plain_extend_loop _, loopZ hh D hS res hn h0 m0 n0 _ _ [] (c + 1 + 1) rfl (Nat.zero_le _) (Z.keep hS (fun e => nomatch e) oth) ?_ (fun j T e => by simp at e) List.nodup_nil (fun T hT => nomatch hT) (fun b o e => oth b o (fun z => n0 b o e (by simp [z])) (kp b o e)) (by rw [Heap.size_update, Heap.size_update]; exact ms) q⟩
  exact hs3

theorem collectZ {s : Shared} {Q : List Value → Shared → Prop} {E : Value → Shared → Prop} (hh : A.handled = none) (D : ZipApart z TI TO i1 i2 l1 l2) (hn : min xs.size ys.size ≤ sizeLine) (h0 : Heap) (m0 : Nat)
    (n0 : ∀ b o, h0.get? b = some o → b ∉ [z, TO, i1, i2]) (Z : ZSt s.heap z TI TO i1 i2 l1 l2 xs ys 0 none) (kp : ∀ b o, h0.get? b = some o → s.heap.get? b = some o) (big : ∀ b ∈ [z, TI, TO, i1, i2, l1, l2], b < s.heap.objs.size) (ms : m0 ≤ s.heap.objs.size)
    (q : ∀ h' Ts, Ts.length = min xs.size ys.size → Given h' xs ys Ts → Ts.Nodup → (∀ T ∈ Ts, m0 ≤ T) → (∀ b o, h0.get? b = some o → h'.get? b = some o) → m0 ≤ h'.objs.size → Q (Ts.map Value.ref) { s with heap := h' }) :
    wpAny (model P w) A (collect (.ref z)) Q E s := by
  have hS : s.heap.objs.size ∉ [z, TI, TO, i1, i2, l1, l2] := fun m => Nat.lt_irrefl _ (big _ m)
  have lt0 : ∀ b o, h0.get? b = some o → b ≠ s.heap.objs.size := fun b o e => Nat.ne_of_lt (Heap.lt_size (kp b o e))
  unfold collect
  refine wpAny_bind (wpAny_runValue (codeAny_builtin F.entry_proto_collect ?_))
  rw [Around.under_plainId F.plain_proto_collect _]
  show wpAny _ A.in1 (newList [] >>= fun l' => again (.builtin "list.__iadd__" ⟨[l', .ref z], []⟩)) _ _ s
  refine wpAny_bind (wpAny_newObj_type ?_)
  refine wpAny_pure ⟨plainId_quiet F.plain_list_iadd _, codeAny_builtin F.entry_list_iadd ?_⟩
  rw [Around.under_plainId F.plain_list_iadd _]
  have g0 : (s.heap.push { cls := .type "list", data := .seq #[] }).get? s.heap.objs.size = some { cls := .type "list", data := .seq #[] } := Heap.get?_push_size _ rfl
  have oth : ∀ b o, b ≠ s.heap.objs.size → s.heap.get? b = some o → (s.heap.push { cls := .type "list", data := .seq #[] }).get? b = some o := fun b o n e => Heap.get?_push_of_some _ e
  show wpAny _ A.in1 (Builtin.List.listExtendWith (.ref s.heap.objs.size) (.ref z) (.ref s.heap.objs.size)) _ _ _
  refine extZr (R := fun r s' => match r with
    | .ok (.ret v) => wpAny (model P w) A (match v with
      | .ref a => do
        let o ← load a
        match o.data with
          | .seq xs _ => pure xs.toList
          | _ => unsupported "internal:collect"
      | _ => unsupported "internal:collect") Q E s'
    | .ok _ => False
    | .error e => E e s') (s := { s with heap := s.heap.push { cls := .type "list", data := .seq #[] } }) hh (.ref s.heap.objs.size) D hS hn h0 m0
    (fun b o e m => by
      rcases List.mem_append.mp (show b ∈ [z, TO, i1, i2] ++ [s.heap.objs.size] from m) with m | m
      · exact n0 b o e m
      · exact lt0 b o e (List.mem_singleton.mp m)) (Z.keep hS (fun e => nomatch e) oth) g0 (fun b o e => oth b o (lt0 b o e) (kp b o e)) (by rw [Heap.size_push]; exact Nat.le_succ_of_le ms) fun h' Ts c a1 a2 a3 a4 a5 a6 => ?_
  show wpAny _ A (load s.heap.objs.size >>= _) _ _ _
  refine wpAny_bind (wpAny_load a2 ?_)
  refine wpAny_pure ?_
  exact q h' Ts a1 a3 a4 (fun T hT => (a5 T hT).1) a6 (Nat.le_trans ms (Nat.le_of_lt (Heap.lt_size a2)))
theorem code_tupZ {s : Shared} {Q₁ : Value → Shared → Prop} {E : Value → Shared → Prop} (hh : A.handled = none) (D : ZipApart z TI TO i1 i2 l1 l2) (hn : min xs.size ys.size ≤ sizeLine) (h0 : Heap) (m0 : Nat)
    (n0 : ∀ b o, h0.get? b = some o → b ∉ [z, TO, i1, i2]) (Z : ZSt s.heap z TI TO i1 i2 l1 l2 xs ys 0 none) (kp : ∀ b o, h0.get? b = some o → s.heap.get? b = some o) (big : ∀ b ∈ [z, TI, TO, i1, i2, l1, l2], b < s.heap.objs.size) (ms : m0 ≤ s.heap.objs.size)
    (h : ∀ h' Ts, Ts.length = min xs.size ys.size → Given h' xs ys Ts → Ts.Nodup → (∀ T ∈ Ts, m0 ≤ T) → (∀ b o, h0.get? b = some o → h'.get? b = some o) → m0 ≤ h'.objs.size →
      Q₁ (.ref h'.objs.size) { s with heap := h'.push { cls := .type "tuple", data := .seq (Ts.map Value.ref).toArray } }) :
    codeAny (model P w) A (.call (.builtin "tuple.__new__") ⟨[.type "tuple", .ref z], []⟩) (wants Q₁ E) s := by
  refine codeAny_of_tree ?_
  show wpAny _ A.in1 (do checkBuiltinCall "tuple.__new__" ⟨[.type "tuple", .ref z], []⟩; again (.builtin "tuple.__new__" ⟨[.type "tuple", .ref z], []⟩)) _ _ s
  refine wpAny_bind (wpAny_of_eq (F.newCall_tuple_1 _) (wpAny_pure ⟨plainId_quiet F.plain_tuple_new _, codeAny_builtin F.entry_tuple_new ?_⟩))
  rw [Around.under_plainId F.plain_tuple_new _]
  have hsub := sub_tuple_self
  have hinit := init_tuple_lookup
  have hmh := madeHere_tuple
  have hTI : s.TypeIs (.ref z) "zip" := by
    rcases Z.zz with ⟨_, e, _⟩ | ⟨_, _, _, _, e, _⟩ <;> exact ⟨_, e, rfl⟩
  have hh1 : A.in1.handled = none := hh
  wp_walk using wpAny_typeOf hTI, collectZ (A := A.in1) hh1 D hn h0 m0 n0 Z kp big ms
  intro h' Ts a1 a2 a3 a4 a5 a7
  show wpAny _ _ (Builtin.Tuple.tupleExact (Ts.map Value.ref).toArray >>= fun v => ret v) _ _ _
  unfold Builtin.Tuple.tupleExact
  refine wpAny_bind (wpAny_newObj_type ?_ (by show (Ts.map Value.ref).toArray.size ≤ sizeLine; rw [List.size_toArray, List.length_map, a1]; exact hn))
  exact wpAny_pure (h h' Ts a1 a2 a3 a4 a5 a7)
theorem tupZip {s : Shared} {Q : Value → Shared → Prop} {E : Value → Shared → Prop} (hh : A.handled = none) (D : ZipApart z TI TO i1 i2 l1 l2) (hn : min xs.size ys.size ≤ sizeLine) (h0 : Heap) (m0 : Nat)
    (n0 : ∀ b o, h0.get? b = some o → b ∉ [z, TO, i1, i2]) (Z : ZSt s.heap z TI TO i1 i2 l1 l2 xs ys 0 none) (kp : ∀ b o, h0.get? b = some o → s.heap.get? b = some o) (big : ∀ b ∈ [z, TI, TO, i1, i2, l1, l2], b < s.heap.objs.size) (ms : m0 ≤ s.heap.objs.size)
    (q : ∀ h' Ts, Ts.length = min xs.size ys.size → Given h' xs ys Ts → Ts.Nodup → (∀ T ∈ Ts, m0 ≤ T) → (∀ b o, h0.get? b = some o → h'.get? b = some o) → m0 ≤ h'.objs.size →
      Q (.ref h'.objs.size) { s with heap := h'.push { cls := .type "tuple", data := .seq (Ts.map Value.ref).toArray } }) :
    wpAny (model P w) A (call (.type "tuple") [.ref z]) Q E s := by
  refine callType_codes (Q₁ := fun obj s₁ => s₁.TypeIs obj "tuple" ∧ Q obj s₁) F.called_tuple (F.typeCall_tuple_1 _) F.entry_object_init
    (code_tupZ (A := A.in1) hh D hn h0 m0 n0 Z kp big ms fun h' Ts a1 a2 a3 a4 a5 a7 => ⟨⟨_, Heap.get?_push_size _ rfl, rfl⟩, q h' Ts a1 a2 a3 a4 a5 a7⟩) fun obj s₁ h₁ => ?_
  exact ⟨h₁.1, F.args_object_init_2 obj _, object_init_meets F.called_tuple.init.lookup F.called_tuple.made (by decide) P w A.in1 _ s₁ ⟨h₁.1, rfl, h₁.2⟩⟩
end
/-- the heap with a new tuple at r of new tuples -/
def zipTp (H : Hp) (r : Addr) (Ts : List Addr) (xs ys : List V) : Hp := fun b => if b = r then some (.tup (Ts.map V.ref)) else (List.lookup b (Ts.zip (List.zipWith (fun x y => HO.tup [x, y]) xs ys))).or (H b)
theorem zipTp_r {H : Hp} {r : Addr} {Ts : List Addr} {xs ys : List V} : zipTp H r Ts xs ys r = some (.tup (Ts.map V.ref)) := if_pos rfl
theorem zipTp_t {H : Hp} {r T : Addr} {Ts : List Addr} {xs ys : List V} {x y : V} {j : Nat} (nd : Ts.Nodup) (nr : T ≠ r) (e : Ts[j]? = some T) (ex : xs[j]? = some x) (ey : ys[j]? = some y) : zipTp H r Ts xs ys T = some (.tup [x, y]) := by
  have l := look_put (ws := List.zipWith (fun x y => HO.tup [x, y]) xs ys) nd e (by rw [List.getElem?_zipWith, ex, ey])
  exact (if_neg nr).trans (by rw [l]; exact Option.some_or)
theorem zipTp_o {H : Hp} {r c : Addr} {Ts : List Addr} {xs ys : List V} (nr : c ≠ r) (nT : c ∉ Ts) : zipTp H r Ts xs ys c = H c := by
  have l : List.lookup c (Ts.zip (List.zipWith (fun x y => HO.tup [x, y]) xs ys)) = none := by
    cases e : List.lookup c (Ts.zip (List.zipWith (fun x y => HO.tup [x, y]) xs ys)) with
    | none => rfl
    | some w =>
      obtain ⟨j, e1, _⟩ := look_get e
      exact absurd (List.mem_of_getElem? e1) nT
  exact (if_neg nr).trans (by rw [l]; exact Option.none_or)
theorem zipTp_inv {H : Hp} {r c : Addr} {Ts : List Addr} {xs ys : List V} {u : HO} (h : zipTp H r Ts xs ys c = some u) : (c = r ∧ u = .tup (Ts.map V.ref)) ∨ (∃ (j : Nat) (x y : V), Ts[j]? = some c ∧ xs[j]? = some x ∧ ys[j]? = some y ∧ u = .tup [x, y]) ∨ H c = some u := by
  by_cases cr : c = r
  · subst cr
    exact .inl ⟨rfl, (Option.some.inj (zipTp_r.symm.trans h)).symm⟩
  · have h : (List.lookup c (Ts.zip (List.zipWith (fun x y => HO.tup [x, y]) xs ys))).or (H c) = some u := (if_neg cr).symm.trans h
    cases lk : List.lookup c (Ts.zip (List.zipWith (fun x y => HO.tup [x, y]) xs ys)) with
    | none =>
      rw [lk, Option.none_or] at h
      exact .inr (.inr h)
    | some w =>
      rw [lk, Option.some_or] at h
      obtain rfl := Option.some.inj h
      obtain ⟨j, e1, e2⟩ := look_get lk
      rw [List.getElem?_zipWith] at e2
      cases ex : xs[j]? with
      | none => rw [ex] at e2; cases e2
      | some x =>
        cases ey : ys[j]? with
        | none => rw [ex, ey] at e2; cases e2
        | some y =>
          rw [ex, ey] at e2
          exact .inr (.inl ⟨j, x, y, e1, ex, ey, (Option.some.inj e2).symm⟩)
section
variable {X : Cx}
def tTupZip (K : PySem.W.Frag) (ta : TA) : TE := fun σ H Q => ta σ H fun vs H1 => ∃ a b xs ys, vs = [.ref a, .ref b] ∧ SqL K H1 a xs ∧ SqL K H1 b ys ∧
  ∀ (r : Addr) (ts : List Addr) (H' : Hp), H1 r = none → H' r = some (.tup (ts.map V.ref)) → ts.length = min xs.length ys.length → (∀ t ∈ ts, H1 t = none) → (∀ (i : Nat) t, ts[i]? = some t → ∃ x y, xs[i]? = some x ∧ ys[i]? = some y ∧ H' t = some (.tup [x, y])) → Same H1 H' → Q (.ref r) H'
theorem pe_tupZip {e e2 : Expr} {ta : TA} {p p2 pos pos2 : Pos} (hg : Gl X "tuple") (hm : X.mg "tuple" = none) (hg2 : Gl X "zip") (hm2 : X.mg "zip" = none) (hc : X.calm = true) (ha : PA X [e, e2] ta)
    (hs : starEach [e, e2] X.env = (false, eval e X.env) :: starEach [e2] X.env := by rfl) (hpl : (backTo pos2 (starEach [e2] X.env)).any (·.1) = false := by rfl)
    (hs2 : starEach [.Call (.Name "zip" p2) [e, e2] [] pos2] X.env = (false, eval (.Call (.Name "zip" p2) [e, e2] [] pos2) X.env) :: starEach [] X.env := by rfl) :
    PE X (.Call (.Name "tuple" p) [.Call (.Name "zip" p2) [e, e2] [] pos2] [] pos) (tTupZip X.K ta) := by
  refine ⟨fun pins s σ H Q I h => ?_⟩
  refine Call_ (ld_blt I hg hm boot_tuple (callWith_type1 (args_cons (Call_ (ld_blt I hg2 hm2 boot_zip (callWith_type1 (thn (ha.run pos2 pins s σ H _ I h) fun us s1 ⟨vs, H1, I1, r1, q1⟩ => ?_) hs hpl))) hs2) hs2 rfl))
  obtain ⟨a, b, xs, ys, rfl, sx, sy, q⟩ := q1
  obtain ⟨its, rv, p1, z1⟩ := I1.list sx
  obtain ⟨its2, rv2, p2', z2⟩ := I1.list sy
  have la : a < s1.heap.objs.size := p1.lt
  have lb : b < s1.heap.objs.size := p2'.lt
  have eus := vals_ref2 r1
  subst eus
  refine call_zip_2 p1.isList p2'.isList fun h' hz hTI hTO h1 h2 hsz hk => args_nil ?_
  have lx : its.toArray.size = xs.length := by rw [List.size_toArray, ← rv.length]
  have ly : its2.toArray.size = ys.length := by rw [List.size_toArray, ← rv2.length]
  have hn : min its.toArray.size its2.toArray.size ≤ sizeLine := by rw [lx]; exact Nat.le_trans (Nat.min_le_left ..) z1
  have old : ∀ b o, s1.heap.get? b = some o → b < s1.heap.objs.size := fun b o e => Heap.lt_size e
  refine tupZip (s := { s1 with heap := h' }) (I1.ok.hd hc) (PySem.W.ktu_apart s1.heap.objs.size a b la lb) hn s1.heap s1.heap.objs.size (fun c o e m => ?_)
    ⟨.inl ⟨rfl, hz, _, _, hTO⟩, ⟨_, hTO⟩, hTI, h1, h2, p1.isList.at fun o e => hk _ _ e, p2'.isList.at fun o e => hk _ _ e⟩ hk (fun c m => ?_) (by show s1.heap.objs.size ≤ h'.objs.size; omega) fun hF Ts a1 a3 a4 a5 a6 mr => ?_
  · have := old c o e
    simp only [List.mem_cons, List.not_mem_nil, or_false] at m
    rcases m with m | m | m | m <;> rw [m] at this <;> first | exact Nat.lt_irrefl _ this | exact absurd this (Nat.not_lt.mpr (Nat.le_add_right _ _))
  · show c < h'.objs.size
    rw [hsz]
    simp only [List.mem_cons, List.not_mem_nil, or_false] at m
    have up : ∀ {k : Nat}, k < 5 → s1.heap.objs.size + k < s1.heap.objs.size + 5 := fun h => Nat.add_lt_add_left h _
    rcases m with m | m | m | m | m | m | m <;> rw [m]
    · exact up (by decide)
    · exact up (by decide)
    · exact up (by decide)
    · exact up (k := 0) (by decide)
    · exact up (by decide)
    · exact Nat.lt_of_lt_of_le la (Nat.le_add_right _ _)
    · exact Nat.lt_of_lt_of_le lb (Nat.le_add_right _ _)
  have fr : ∀ c, s1.heap.objs.size ≤ c → H1 c = none := fun c hc => I1.hok.fresh hc
  have lT : Ts.length = min xs.length ys.length := by rw [a1, lx, ly]
  have ltT : ∀ T ∈ Ts, T < hF.objs.size := fun T hT => by
    obtain ⟨j, hj⟩ := List.getElem?_of_mem hT
    obtain ⟨_, _, _, _, g3⟩ := a3 j T hj
    exact Heap.lt_size g3
  have kF : ∀ b o, hF.get? b = some o → (hF.push { cls := .type "tuple", data := .seq (Ts.map Value.ref).toArray }).get? b = some o := fun b o e => Heap.get?_push_of_some _ e
  have gr : (hF.push { cls := .type "tuple", data := .seq (Ts.map Value.ref).toArray }).get? hF.objs.size = some { cls := .type "tuple", data := .seq (Ts.map Value.ref).toArray } := Heap.get?_push_size _ rfl
  generalize hF.push { cls := .type "tuple", data := .seq (Ts.map Value.ref).toArray } = hG at *
  generalize hF.objs.size = r at *
  have gt : ∀ (j : Nat) T, Ts[j]? = some T → ∃ x y, xs[j]? = some x ∧ ys[j]? = some y ∧ zipTp H1 r Ts xs ys T = some (.tup [x, y]) := fun j T e => by
    have hj := (List.getElem?_eq_some_iff.mp e).1
    have j1 : j < xs.length := by omega
    have j2 : j < ys.length := by omega
    exact ⟨_, _, List.getElem?_eq_getElem j1, List.getElem?_eq_getElem j2, zipTp_t a4 (Nat.ne_of_lt (ltT T (List.mem_of_getElem? e))) e (List.getElem?_eq_getElem j1) (List.getElem?_eq_getElem j2)⟩
  have zo : ∀ c, c < s1.heap.objs.size → zipTp H1 r Ts xs ys c = H1 c := fun c hc => zipTp_o (Nat.ne_of_lt (Nat.lt_of_lt_of_le hc mr)) fun m => Nat.lt_irrefl _ (Nat.lt_of_lt_of_le hc (a5 c m))
  have zs : ∀ c u, H1 c = some u → zipTp H1 r Ts xs ys c = some u := fun c u e => (zo c (I1.hok.lt e)).trans e
  have hok : HOk X.prog X.w (zipTp H1 r Ts xs ys) hG := fun c u e => by
    rcases zipTp_inv e with ⟨rfl, rfl⟩ | ⟨j, x, y, e1, ex, ey, rfl⟩ | e
    · exact ⟨by rw [List.length_map, a1]; exact hn, Ts.map Value.ref, vals_addrs Ts, ⟨_, gr, rfl, _, rfl⟩⟩
    · obtain ⟨v1, v2, g1, g2, g3⟩ := a3 j c e1
      obtain ⟨w1, h1', r1⟩ := rv.get ex
      obtain ⟨w2, h2', r2⟩ := rv2.get ey
      have e3 : some w1 = some v1 := by rw [← h1', ← g1]; simp
      have e4 : some w2 = some v2 := by rw [← h2', ← g2]; simp
      obtain rfl := Option.some.inj e3
      obtain rfl := Option.some.inj e4
      exact ⟨(by show 2 ≤ sizeLine; decide), [w1, w2], .cons r1 (.cons r2 .nil), ⟨_, kF _ _ g3, rfl, _, rfl⟩⟩
    · exact (I1.hok c u e).stay (fun d v _ q => kF _ _ (a6 d v q)) (fun d q => zs _ _ q) fun d zs' q => zs _ _ q
  have un : Un (frs X.stack) [] H1 (zipTp H1 r Ts xs ys) s1.heap hG :=
    ⟨fun b u q _ _ _ => kF _ _ (a6 b u q), fun b u q _ _ _ => ⟨u.slots, kF _ _ (a6 b u q)⟩, fun b u q n _ => (zo b (old _ _ q)).trans n, fun b u q _ => ⟨u, kF _ _ (a6 b u q)⟩, fun b _ q => zs _ _ q, fun b _ _ q => zs _ _ q, fun b _ q => ⟨#[], by rw [zs _ _ q]; simp⟩⟩
  have J : Inv X pins σ (zipTp H1 r Ts xs ys) { s1 with heap := hG, gens := s1.gens, drawn := s1.drawn, toks := s1.toks } := I1.call (s := s1) (ch := []) un hok I1.bare (fun _ z => nomatch z)
  exact ⟨.ref r, zipTp H1 r Ts xs ys, J, rfl, q r Ts _ (fr _ mr) zipTp_r lT (fun t ht => fr t (a5 t ht)) gt zs⟩
end
end Spk

/-! sets of ints: made of a list, and sorted, any number of them -/
namespace Spk
open PySem PySem.Spec PyProof.Rows L2
/-- an empty set as set() makes it -/
def setOb (w : World) : Obj := { cls := .type "set", dict := none, data := .set #[] 0 (.fresh 0 0 (!w.params.followText "set-order")) }
section
variable {P : Program} {w : World} {A : Around} {E : Value → Shared → Prop} {s : Shared}
theorem setList {l : Addr} {xs : Array Value} (ns : List Int) {Q : Value → Shared → Prop} (hh : A.handled = none) (hl : s.heap.IsList l xs) (hx : IntsAre xs.toList ns) (hb : ns.length + 1 < scanBound)
    (q : ∀ (h' : Heap) (tk c : Nat), SetR w h' s.heap.objs.size (fun j => decide (j ∈ ns)) c → c ≤ ns.length → (∀ b o, s.heap.get? b = some o → h'.get? b = some o) → Q (.ref s.heap.objs.size) { s with heap := h', toks := tk }) :
    wpAny (model P w) A (call (.type "set") [.ref l]) Q E s := by
  have e0 : xs.size = ns.length := by have := IntsAre.length hx; simpa using this
  obtain ⟨_, _, m1⟩ := F.called_set.mro
  have m2 := F.called_set.made; have m3 := F.called_set.sub; have m4 := F.called_set.notType; have m5 := F.called_set.canCreate
  have m6 := F.typeCall_set_1 (.ref l)
  refine wpAny_call (codeAny_of_tree (show wpAny _ _ (callAny (.type "set") _) _ _ _ from wpAny_pure ⟨Code.quiet_builtin _ (by decide +kernel), codeAny_builtin F.entry_type_call ?_⟩))
  rw [Around.under_plain (weight_type_call_type "set" [.ref l] []) rfl]
  repeat (any_goals (first | assumption | wp_step))
  have g0 : (s.heap.push (setOb w)).get? s.heap.objs.size = some (setOb w) := Heap.get?_push_size _ rfl
  refine codeAny_mono (code_set_led1 (.ref l) (E := E) (Q₁ := fun v t => v = .ref s.heap.objs.size ∧ t = { s with heap := s.heap.push (setOb w) }) ⟨rfl, rfl⟩) fun r t hr => ?_
  match r, hr with
  | .error _, hr => exact hr
  | .ok (.ret _), ⟨e1, e2⟩ =>
    subst e1 e2
    have ty : Shared.TypeIs { s with heap := s.heap.push (setOb w) } (.ref s.heap.objs.size) "set" := ⟨_, g0, rfl⟩
    have i1 := F.called_set.init.lookup; have i2 := F.called_set.init.bind (.ref s.heap.objs.size)
    repeat (any_goals (first | assumption | wp_step))
    refine codeAny_mono (codeAny_call_builtin (R := wants (fun v t => v = .none ∧ ∃ h' tk c, t = { s with heap := h', toks := tk } ∧ SetR w h' s.heap.objs.size (fun j => decide (j ∈ ns)) c ∧ c ≤ ns.length ∧ ∀ b o, s.heap.get? b = some o → h'.get? b = some o) E)
      F.called_set.init.plain F.entry_set_init (check_set_init_1 ty ?_)) fun r2 t2 hr2 => ?_
    · obtain ⟨⟨_, dd, _, ss⟩, o1, o2, n1, o3⟩ := hl
      dsimp only at o2 o3; subst o2 o3
      have o4 : (s.heap.push (setOb w)).get? l = some { cls := .type "list", dict := dd, data := .seq xs n1, slots := ss } := Heap.get?_push_of_some _ o1
      have t1 := F.sub_list_set; have t2 := F.sub_list_frozenset
      have t3 : (Value.type "list" == Value.type "dict") = false := by decide
      have isl : (s.heap.push (setOb w)).IsList l xs := ⟨_, o4, rfl, n1, rfl⟩
      unfold Builtin.«set.__init__» noKeywords Builtin.Frozenset.updateFrom
      generalize hp : pyIter = pI
      wp_walk
      subst hp
      refine wpAny_pyIter_list isl (wpAny_bind (wpAny_runValue ?_))
      have ll : l < s.heap.objs.size := Heap.lt_size o1
      have sz : (s.heap.push (setOb w)).objs.size = s.heap.objs.size + 1 := Heap.size_push ..
      have h3 : A.in1.in1.in1.handled = none := by simp [hh]
      have nI : l ≠ (s.heap.push (setOb w)).objs.size := by rw [sz]; exact Nat.ne_of_lt (Nat.lt_succ_of_lt ll)
      have nS : s.heap.objs.size ∉ [(s.heap.push (setOb w)).objs.size, l] := fun z => by
        rw [sz] at z
        rcases List.mem_cons.mp z with e | e
        · exact Nat.ne_of_lt (Nat.lt_succ_self _) e
        · exact Nat.ne_of_gt ll (List.mem_singleton.mp e)
      have val : ∀ (i : Nat) (v : Value), xs[i]? = some v → ∃ k t, ns[i]? = some k ∧ v = .int k t := by
        intro i v hv
        have hi : i < ns.length := e0 ▸ (Array.getElem?_eq_some_iff.mp hv).1
        obtain ⟨t, e⟩ := IntsAre.int_at hx i v ((Array.getElem?_toList ..).trans hv)
        exact ⟨ns[i], t, List.getElem?_eq_getElem hi, by rw [e, List.getD_eq_getElem?_getD, List.getElem?_eq_getElem hi]; rfl⟩
      refine set_update_ints (Walks.list h3 _ l nI xs).toS s.heap.objs.size nS ns e0 hb val (xs.size - 0) 0 _ rfl (Nat.zero_le _) ⟨⟨_, Heap.get?_push_size _ rfl, rfl, rfl⟩, isl.push _⟩
        ⟨0, Nat.le_refl 0, setR_new_at (Heap.get?_push_of_some _ g0)⟩ ?_
      rintro ⟨h', _, _, tk', _⟩ c' mv lc sr
      obtain ⟨eg, ed, eo⟩ := And.intro mv.gens (And.intro mv.drawn mv.os)
      dsimp only at eg ed eo; subst eg ed eo
      refine (show wpAny _ _ _ _ _ _ from wpAny_pure (show wpAny _ _ (ret Value.none) _ _ _ from wpAny_pure ⟨rfl, h', tk', c', rfl, sr, e0 ▸ lc, fun b o e => ?_⟩))
      have hb0 : b < s.heap.objs.size := Heap.lt_size e
      refine mv.heap b o (fun z => ?_) (Heap.get?_push_of_some _ (Heap.get?_push_of_some _ e))
      rw [sz] at z
      rcases List.mem_cons.mp z with z | z
      · exact Nat.ne_of_lt hb0 z
      · exact Nat.ne_of_lt (Nat.lt_succ_of_lt hb0) (List.mem_singleton.mp z)
    · match r2, hr2 with
      | .error _, hr2 => exact hr2
      | .ok (.ret _), ⟨e3, h', tk, c, e4, sr, lc, kp⟩ =>
        subst e3 e4
        repeat (any_goals (first | assumption | wp_step))
        exact q _ _ _ sr lc kp
theorem sortedSet {a : Addr} {S : Int → Bool} {n : Nat} {Q : Value → Shared → Prop} (R : SetR w s.heap a S n) (hh : A.handled = none)
    (q : ∀ t p (out : Array Value) (c : Nat) (ns : List Int), (∀ b o, s.heap.get? b = some o → t.heap.get? b = some o) → t.gens = s.gens → t.os = s.os → s.heap.objs.size ≤ p → t.heap.get? p = some (seqObj "list" out c) →
      IntsAre out.toList ns → ns.Pairwise (· < ·) → (∀ k, k ∈ ns ↔ S k = true) → ns.length ≤ sizeLine → Q (.ref p) t) :
    wpAny (model P w) A (call (.builtin "sorted") [.ref a]) Q E s := by
  obtain ⟨o, es, ep, t, ho, ex, hd, gd, nd, mem, sb, fit, rfl, ris, led⟩ := R
  refine Calls.call_function_entry kind_sorted plain_sorted entry_sorted (args_sorted1 _) ?_
  unfold Builtin.«sorted»
  refine wpAny_bind (m := checkCount "sorted" 1 1 _) (wpAny_pure (wpAny_bind (collect_set (A := A.in1) hh ⟨o, ho, ex.1, hd⟩ fit sb ris led fun s1 vs k1 z1 g1 o1 pm => ?_)))
  have lv : vs.length = es.size := by rw [pm.length_eq]; simp
  have zv : vs.length ≤ sizeLine := by rw [lv, sizeLine_eq]; unfold scanBound at sb; omega
  have vi : IntsAre vs (vs.map Builtin.Re.reRawOf) := ints_of vs fun v hv => by
    obtain ⟨e, he, rfl⟩ := List.mem_map.mp (pm.mem_iff.mp hv)
    obtain ⟨k, tk, h1, _⟩ := gd e he
    exact ⟨k, tk, h1⟩
  have pk : (vs.map Builtin.Re.reRawOf).Perm (es.toList.map keyOf) := by
    have := pm.map Builtin.Re.reRawOf
    rwa [List.map_map] at this
  refine wpAny_bind (wpAny_newList ?_ zv)
  have hL : (s1.heap.push (seqObj "list" vs.toArray 0)).get? s1.heap.objs.size = some (seqObj "list" vs.toArray 0) := Heap.get?_push_size _ rfl
  refine wpAny_bind (wpAny_holding (wpAny_call_entry slot_list_sort ⟨_, hL, rfl⟩ entry_list_sort (SrtO.list_sort_ord SrtO.swo_int hL zv (fun h2 => SrtO.ints_sortable vi h2) fun out h1 h2 => ⟨_, rfl, ?_⟩) (args_list_sort _)))
  obtain ⟨w1, w2, w3⟩ := SrtO.ints_out vi h1 h2
  obtain ⟨c, hc⟩ := sortedHeap_at (vs := vs) (out := out.toArray) hL
  have pn := w2.trans pk
  refine wpAny_pure ⟨_, rfl, q _ s1.heap.objs.size out.toArray c (out.map SrtO.iv) (fun b u e => ?_) g1 o1 z1 hc w1 (lt_of_le_nodup _ w3 (pn.nodup_iff.mpr nd)) (fun k => by rw [pn.mem_iff, ← mem k]) (by rw [w2.length_eq, List.length_map]; exact zv)⟩
  have e1 := k1 b u e
  have lt := Heap.lt_size e1
  show (sortedHeap _ _ _ _).get? b = some u
  rw [sortedHeap_old (Nat.ne_of_lt lt) (by rw [size_push']; exact Nat.lt_succ_of_lt lt)]
  exact Heap.get?_push_of_some _ e1
end
section
variable {X : Cx}
/-- set(xs), xs a list of ints -/
def rSetOf (K : PySem.W.Frag) (w : World) : List V → Hp → VK → Prop := fun xs H Q => ∃ (l : Addr) (ns : List Int), xs = [V.ref l] ∧ SqL K H l (ns.map V.int) ∧ ns.length ≤ 4000 ∧ ∀ a n, H a = none → Q (.ref a) (upd H a (SetO w a (fun j => decide (j ∈ ns)) n))
theorem cr_setOf (hc : X.calm = true) : CallR X (.type "set") (rSetOf X.K X.w) := by
  intro pins s σ H xs us Q I r h
  obtain ⟨l, ns, rfl, hl, hn, q⟩ := h
  rw [Vals.ref1 r]
  obtain ⟨its, rv, pl, hz⟩ := I.list hl
  have free : H s.heap.objs.size = none := I.hok.fresh (Nat.le_refl _)
  refine setList (P := X.prog) (w := X.w) ns (I.ok.hd hc) pl.isList (by simpa using rv.ints) (by unfold scanBound; omega) fun h' tk c R _ k => ?_
  exact ⟨.ref s.heap.objs.size, upd H s.heap.objs.size (SetO X.w s.heap.objs.size (fun j => decide (j ∈ ns)) c), I.laid (t' := tk) k (Nat.le_refl _) (setO_new R), rfl, q _ c free⟩
/-- sorted(set of ints), any number of members -/
def rSortSet (w : World) : List V → Hp → VK → Prop := fun vs H Q => ∃ (a : Addr) (S : Int → Bool) (n : Nat), vs = [V.ref a] ∧ H a = some (SetO w a S n) ∧
  ∀ (ns : List Int) (p : Addr), ns.Pairwise (· < ·) → (∀ k : Int, k ∈ ns ↔ S k = true) → H p = none → Q (.ref p) (upd H p (.lst (ns.map V.int)))
theorem cr_sortSet (hc : X.calm = true) : CallR X (.builtin "sorted") (rSortSet X.w) := by
  intro pins s σ H vs us Q I r h
  obtain ⟨a, S, n, rfl, ha, q⟩ := h
  have R := setO_get I ha
  rw [Vals.ref1 r]
  refine sortedSet R (I.ok.hd hc) fun t p out c ns k g o hp hg hi hs hm hz => ?_
  have free : H p = none := I.hok.fresh hp
  obtain ⟨_, _, _, _, _⟩ := t
  dsimp only at g o; subst g o
  exact ⟨.ref p, upd H p (.lst (ns.map V.int)), I.call (ch := []) (Un.laid k hp free) (I.hok.laid k hp ⟨by rw [List.length_map]; exact hz, out.toList, c, vals_of_ints hi, hg⟩) I.bare (fun _ z => nomatch z), rfl, q ns p hs hm free⟩
end
end Spk

namespace Spk
open PySem PySem.Spec PyProof.Rows L2
theorem un65 {k : Nat} {A : Around} (h : Room k A) : A.units + 65 < cLine := by have := h.un; omega
def eIsi2 (tb1 : List (String × Bool)) (ow1 : List (Str × Bool)) (tb2 : List (String × Bool)) (ow2 : List (Str × Bool)) (o1 : Opd) : EX := fun ρ => (o1.ev ρ).bind fun a ρ1 => Rs.lift (((a.dat ρ1).bind fun d => orO (isiD tb1 ow1 d) (isiD tb2 ow2 d)).map D.bl) ρ1
/-! ### sets of ints, sorted -/
def insS (k : Int) : List Int → List Int
  | [] => [k]
  | x :: xs => if k < x then k :: x :: xs else if k = x then x :: xs else x :: insS k xs
def sset (ns : List Int) : List Int := ns.foldr insS []
theorem insS_mem {k j : Int} : ∀ {l : List Int}, j ∈ insS k l ↔ j = k ∨ j ∈ l
  | [] => by simp [insS]
  | x :: xs => by
    unfold insS
    by_cases h1 : k < x
    · rw [if_pos h1]; simp
    · rw [if_neg h1]
      by_cases h2 : k = x
      · rw [if_pos h2, h2]; simp
      · rw [if_neg h2, List.mem_cons, insS_mem, List.mem_cons]
        constructor
        · rintro (h | h | h)
          · exact .inr (.inl h)
          · exact .inl h
          · exact .inr (.inr h)
        · rintro (h | h | h)
          · exact .inr (.inl h)
          · exact .inl h
          · exact .inr (.inr h)
theorem insS_up {k : Int} : ∀ {l : List Int}, l.Pairwise (· < ·) → (insS k l).Pairwise (· < ·)
  | [], _ => by simp [insS]
  | x :: xs, h => by
    have hc := List.pairwise_cons.mp h
    unfold insS
    by_cases h1 : k < x
    · rw [if_pos h1]
      refine List.pairwise_cons.mpr ⟨fun y hy => ?_, h⟩
      rcases List.mem_cons.mp hy with rfl | hy
      · exact h1
      · exact Int.lt_trans h1 (hc.1 y hy)
    · rw [if_neg h1]
      by_cases h2 : k = x
      · rw [if_pos h2]; exact h
      · rw [if_neg h2]
        refine List.pairwise_cons.mpr ⟨fun y hy => ?_, insS_up hc.2⟩
        rcases insS_mem.mp hy with rfl | hy
        · omega
        · exact hc.1 y hy
theorem sset_mem {j : Int} : ∀ {ns : List Int}, j ∈ sset ns ↔ j ∈ ns
  | [] => by simp [sset]
  | n :: ns => by
    show j ∈ insS n (sset ns) ↔ _
    rw [insS_mem, sset_mem, List.mem_cons]
theorem sset_up : ∀ ns : List Int, (sset ns).Pairwise (· < ·)
  | [] => .nil
  | n :: ns => insS_up (sset_up ns)
theorem up_uniq : ∀ {l m : List Int}, l.Pairwise (· < ·) → m.Pairwise (· < ·) → (∀ k, k ∈ l ↔ k ∈ m) → l = m
  | [], [], _, _, _ => rfl
  | [], b :: m, _, _, h => absurd ((h b).mpr List.mem_cons_self) List.not_mem_nil
  | a :: l, [], _, _, h => absurd ((h a).mp List.mem_cons_self) List.not_mem_nil
  | a :: l, b :: m, ha, hb, h => by
    have ha' := List.pairwise_cons.mp ha
    have hb' := List.pairwise_cons.mp hb
    have e : a = b := by
      rcases List.mem_cons.mp ((h a).mp List.mem_cons_self) with e | e
      · exact e
      · rcases List.mem_cons.mp ((h b).mpr List.mem_cons_self) with e2 | e2
        · exact e2.symm
        · have := ha'.1 b e2
          have := hb'.1 a e
          omega
    subst e
    refine congrArg (a :: ·) (up_uniq ha'.2 hb'.2 fun k => ⟨fun hk => ?_, fun hk => ?_⟩)
    · rcases List.mem_cons.mp ((h k).mp (List.mem_cons_of_mem _ hk)) with e | e
      · have := ha'.1 k hk; omega
      · exact e
    · rcases List.mem_cons.mp ((h k).mpr (List.mem_cons_of_mem _ hk)) with e | e
      · have := hb'.1 k hk; omega
      · exact e
section
variable {G : Gx} {X : Cx} {W : WX} {e e2 a b : Expr} {pos pos2 p p2 : Pos} {fa fb : EX}
/-- sorted(set(xs)), ints -/
def eSortSet (fa : EX) : EX := fun ρ => (fa ρ).bind fun d ρ1 => match d with
  | .lst ds => Rs.lift ((ints? ds).bind fun ns => if ns.length ≤ 4000 then some (.lst ((sset ns).map D.int)) else none) ρ1
  | _ => .bad
theorem de_sortSet (ha : DE G X W a fa) (hg : Gl X "sorted") (hm : X.mg "sorted" = none) (hg2 : Gl X "set") (hm2 : X.mg "set" = none) (hc : X.calm = true := by rfl) (hK : X.K = G.K := by rfl)
    (he : starEach [a] X.env = (false, eval a X.env) :: starEach [] X.env := by rfl) (hpl : (backTo pos2 (starEach [] X.env)).any (·.1) = false := by rfl)
    (he2 : starEach [.Call (.Name "set" p2) [a] [] pos2] X.env = (false, eval (.Call (.Name "set" p2) [a] [] pos2) X.env) :: starEach [] X.env := by rfl) (hpl2 : (backTo pos (starEach [] X.env)).any (·.1) = false := by rfl) :
    DE G X W (.Call (.Name "sorted" p) [.Call (.Name "set" p2) [a] [] pos2] [] pos) (eSortSet fa) := by
  obtain ⟨t1, p1, q1⟩ := DE.elim ha
  refine DE.intro ⟨_, pe_callB (cr_sortSet hc) hg hm (by decide +kernel) (pa_cons (pe_callTy (hK ▸ cr_setOf hc) hg2 hm2 (by decide +kernel) (pa_cons p1 pa_nil he) (by decide) (by decide) he hpl) pa_nil he2) (by decide) (by decide) he2 hpl2, fun F σ H Hf ρ Q R p => ?_⟩
  refine q1 F σ H Hf ρ _ R ((PostE.bind p).imp fun d H1 Hf1 ρ1 _ R1 s1 p v r => ?_)
  cases d with
  | lst ds =>
    obtain ⟨d, hd, qq⟩ := lift_post (H := H1) p
    obtain ⟨ns, h1, h2⟩ := Option.bind_eq_some_iff.mp hd
    obtain ⟨c, rfl⟩ := ite_some' h2
    cases r with
    | lst ha rl =>
      obtain rfl := rl.ints? h1
      refine ⟨_, ns, rfl, SqL.hp (R1.sub _ _ ha), c, fun q n nq => ?_⟩
      have R2 := R1.side nq (SetO X.w q (fun j => decide (j ∈ ns)) n)
      refine ⟨q, _, n, rfl, upd_same, fun ms r up hm nr => ?_⟩
      have e : ms = sset ns := up_uniq up (sset_up ns) fun k => (hm k).trans (by rw [decide_eq_true_eq, sset_mem])
      subst e
      obtain ⟨R', s', r'⟩ := R2.laid nr (RpL.ints (G := G) (H := Hf1) (sset ns))
      exact qq _ _ R' s' _ r'
  | _ => exact p.elim
theorem rpl_of {H : Hp} : ∀ {vs : List V} {ds : List D}, vs.length = ds.length → (∀ (i : Nat) (v : V) (d : D), vs[i]? = some v → ds[i]? = some d → Rp G H v d) → RpL G H vs ds
  | [], [], _, _ => .nil
  | v :: vs, d :: ds, l, h => .cons (h 0 v d rfl rfl) (rpl_of (by simpa using l) fun i v' d' e1 e2 => h (i + 1) v' d' (by simpa using e1) (by simpa using e2))
  | [], _ :: _, l, _ => by simp at l
  | _ :: _, [], l, _ => by simp at l
/-- tuple(zip(xs, ys)), two lists -/
def eTupleZip (fa fb : EX) : EX := fun ρ => (fa ρ).bind fun d ρ1 => (fb ρ1).bind fun d2 ρ2 => match d, d2 with
  | .lst xs, .lst ys => .ok (.tup (zipD xs ys)) ρ2
  | _, _ => .bad
theorem de_tupleZip (ha : DE G X W a fa) (hb : DE G X W b fb) (hg : Gl X "tuple") (hm : X.mg "tuple" = none) (hg2 : Gl X "zip") (hm2 : X.mg "zip" = none) (hc : X.calm = true := by rfl) (hK : X.K = G.K := by rfl) (hs0 : starEach [b] X.env = (false, eval b X.env) :: starEach [] X.env := by rfl)
    (hs : starEach [a, b] X.env = (false, eval a X.env) :: starEach [b] X.env := by rfl) (hpl : (backTo pos2 (starEach [b] X.env)).any (·.1) = false := by rfl)
    (hs2 : starEach [.Call (.Name "zip" p2) [a, b] [] pos2] X.env = (false, eval (.Call (.Name "zip" p2) [a, b] [] pos2) X.env) :: starEach [] X.env := by rfl) :
    DE G X W (.Call (.Name "tuple" p) [.Call (.Name "zip" p2) [a, b] [] pos2] [] pos) (eTupleZip fa fb) := by
  obtain ⟨t1, p1, q1⟩ := DE.elim ha
  obtain ⟨t2, p2, q2⟩ := DE.elim hb
  refine DE.intro ⟨_, pe_tupZip hg hm hg2 hm2 hc (pa_cons p1 (pa_cons p2 pa_nil hs0) hs) hs hpl hs2, fun F σ H Hf ρ Q R p => ?_⟩
  refine q1 F σ H Hf ρ _ R ((PostE.bind p).imp fun d H1 Hf1 ρ1 _ R1 s1 p v r => ?_)
  refine q2 F σ H1 Hf1 ρ1 _ R1 ((PostE.bind p).imp fun d2 H2 Hf2 ρ2 _ R2 s2 p w r2 => ?_)
  cases d with
  | lst xs =>
    cases d2 with
    | lst ys =>
      cases r with
      | lst a1 l1 =>
        cases r2 with
        | lst a2 l2 =>
          have l1 := l1.mono s2
          have a1 := s2 _ _ a1
          refine ⟨_, _, _, _, rfl, SqL.hp (R2.sub _ _ a1), SqL.hp (R2.sub _ _ a2), fun rr ts H' nr hr lt nts gt s' => ?_⟩
          obtain ⟨Hf', s3, R3, hn⟩ := R2.grown s'
          have l1' := l1.mono s3
          have l2' := l2.mono s3
          refine p H' Hf' R3 s3 _ (.tup (SqT.hp (hn _ _ nr hr)) ?_)
          have zl : (zipD xs ys).length = ts.length := by rw [lt]; simp [zipD, l1.len, l2.len]
          refine rpl_of (by rw [List.length_map]; exact zl.symm) fun i v d hv hd => ?_
          obtain ⟨t, ht, rfl⟩ := map_get hv
          obtain ⟨x, y, hx, hy, hT⟩ := gt i t ht
          obtain ⟨dx, e1, rx⟩ := l1'.get hx
          obtain ⟨dy, e2, ry⟩ := l2'.get hy
          have : d = .tup [dx, dy] := by
            have h : (zipD xs ys)[i]? = some (.tup [dx, dy]) := by simp [zipD, List.getElem?_zipWith, e1, e2]
            rw [hd] at h; exact Option.some.inj h
          subst this
          exact .tup (SqT.hp (hn _ _ (nts t (List.mem_of_getElem? ht)) hT)) (.cons rx (.cons ry .nil))
    | _ => exact p.elim
  | _ => exact p.elim
/-! ### raise -/
def sRaise (c f : Str) (fe : EX) : SX := fun ρ => Sr.of (fe ρ) fun d ρ1 => .exc c f d ρ1
theorem ds_raise {k : Nat} {x f c : Str} {fI : Addr} {fd : FuncData} (hc : X.calm = true) (T : ErrT X.prog X.w X.K X.mg X.base x f (G.cm c) fI fd) (rm : Room k X.A) (hk : 2 ≤ k) (tk : Takes X W) (hg : Gl X x) {fe : EX} (he : DE G X W e fe) (hdb : (x == ("__debug__" : Str)) = false := by decide)
    (hs : starEach [e] X.env = (false, eval e X.env) :: starEach [] X.env := by rfl) (hpl : (backTo pos (starEach [] X.env)).any (·.1) = false := by rfl) :
    DS G X W (.Raise (some (.Call (.Name x p) [e] [] pos)) none pos2) (sRaise c f fe) := by
  obtain ⟨t1, p1, q1⟩ := DE.elim he
  refine ⟨_, ps_raiseE hc T rm hk tk hg p1 hdb hs hpl, fun F σ H Hf ρ En R p => q1 F σ H Hf ρ _ R ((PostS.of p).imp fun d H1 Hf1 ρ1 _ R1 s1 p v r => ?_)⟩
  have h := errK (C := G.cm c) (f := f) (v := v) (H1 := H1) (Q := fun cls d H' => W cls d σ H') fun dd nd => by
    have s2 := Same.new (o := .xd [(f, v)]) (R1.nf nd)
    exact p v dd σ _ _ (R1.new nd _) s2 (r.mono s2) upd_same
  exact h
/-- list(x) as a list of one's own -/
def fList (o : Opd) : PEnv → Rs (List D) := fun ρ => (o.ev ρ).bind fun a ρ1 => Rs.lift ((a.dat ρ1).bind fun d => match listD d with
  | some (.lst ds) => some ds
  | _ => none) ρ1
theorem df_list {o : Opd} (ha : DO G X W a o) (hg : Gl X "list") (hm : X.mg "list" = none) (hK : X.K = G.K := by rfl) (he : starEach [a] X.env = (false, eval a X.env) :: starEach [] X.env := by rfl) (hpl : (backTo pos (starEach [] X.env)).any (·.1) = false := by rfl) : DF G X W (.Call (.Name "list" p) [a] [] pos) (fList o) := by
  obtain ⟨t1, p1, q1⟩ := ha
  refine ⟨_, pe_callTy (hK ▸ call_list_of) hg hm (by decide +kernel) (pa_cons p1 pa_nil he) (by decide) (by decide) he hpl, fun F σ H Hf ρ Q R p => ?_⟩
  refine q1 F σ H Hf ρ _ R ((PostE.bind p).imp fun a1 H1 Hf1 ρ1 _ R1 s1 p v r => ?_)
  obtain ⟨ds, hd, q⟩ := lift_post (H := H1) p
  obtain ⟨d, h1, h2⟩ := Option.bind_eq_some_iff.mp hd
  have rq := ArgOk.rq R1 r h1
  cases d <;> simp only [listD] at h2 <;> cases h2
  · obtain ⟨a, vs, rfl, hp, rl⟩ := rq.lst R1.sub
    exact ⟨_, _, rfl, .inl (SqL.hp hp), fun l nl => q H1 Hf1 R1 (Same.refl _) l vs nl rl⟩
  · obtain ⟨a, vs, rfl, hp, rl⟩ := rq.t R1.sub
    exact ⟨_, _, rfl, .inr hp, fun l nl => q H1 Hf1 R1 (Same.refl _) l vs nl rl⟩
  · cases rq.nl (fun _ z => nomatch z) with
    | scr hp => exact ⟨_, _, rfl, .inl (R1.sub.seq hp), fun l nl => q H1 Hf1 R1 (Same.refl _) l _ nl (RpL.ints _)⟩
end
end Spk

namespace Spk
open PySem PySem.Spec PyProof.Rows L2
section
variable {G : Gx} {X : Cx} {W : WX} {x : Str} {p pos : Pos} {j : Nat}
theorem de_cst {e : Expr} {v : V} {d : D} (p : PE X e (tC v)) (r : ∀ Hf, Rp G Hf v d) : DE G X W e (eC d) := de_of (tC v) v d p r
theorem de_non : DE G X W (.Constant .none j pos) (eC .non) := de_cst pe_non fun _ => .non
theorem de_bl {b : Bool} : DE G X W (.Constant (.bool b) j pos) (eC (.bl b)) := de_cst pe_bl fun _ => .bl b
theorem de_int {i : Int} : DE G X W (.Constant (.int i) j pos) (eC (.int i)) := de_cst pe_int fun _ => .int i
theorem de_str {s : Str} (h : PyData.canLay0 (.str s) = true) : DE G X W (.Constant (.str s) j pos) (eC (.str s)) := de_cst pe_str fun _ => .str h
theorem de_glI {i : Int} (h : ∃ t, X.mg x = some (.int i t)) (hg : Gl X x) (hd : (x == ("__debug__" : Str)) = false := by decide) : DE G X W (.Name x pos) (eC (.int i)) := de_cst (pe_globI h hg hd) fun _ => .int i
theorem de_half (h : EndsT X.K X.mg) (hg : Gl X "Ends") (hb : attributeBase (.Name "Ends" p) "HALF" X.env (eval (.Name "Ends" p) X.env) = eval (.Name "Ends" p) X.env := by rfl) : DE G X W (.Attribute (.Name "Ends" p) "HALF" pos) (eC (.str "half")) := de_cst (pe_half h hg hb) fun _ => .str (by decide +kernel)
theorem de_shut (h : EndsT X.K X.mg) (hg : Gl X "Ends") (hb : attributeBase (.Name "Ends" p) "SHUT" X.env (eval (.Name "Ends" p) X.env) = eval (.Name "Ends" p) X.env := by rfl) : DE G X W (.Attribute (.Name "Ends" p) "SHUT" pos) (eC (.str "shut")) := de_cst (pe_shut h hg hb) fun _ => .str (by decide +kernel)
end
end Spk

namespace Spk
open PySem PySem.Spec PyProof.Rows L2
/-! ### sorted of data -/
def likeB (ps : List PyData) : Bool := ps.all fun x => ps.all fun y => PySem.W.alike x y
def tup1 : PyData → Bool
  | .tuple (_ :: _) => true
  | _ => false
def noTup : PyData → Bool
  | .tuple _ => false
  | .none => false
  | _ => true
def sortable (ps : List PyData) : Bool := ps.all tup1 || ps.all noTup
theorem likeB_ok {ps : List PyData} (h : likeB ps = true) : PySem.W.AllAlike ps := fun d hd d' hd' => List.all_eq_true.mp (List.all_eq_true.mp h d hd) d' hd'
theorem sortable_ok {ps : List PyData} (h : sortable ps = true) : PySem.W.Sortable ps := by
  rcases Bool.or_eq_true_iff.mp h with h | h
  · refine .inl fun d hd => ?_
    have := List.all_eq_true.mp h d hd
    cases d <;> simp only [tup1] at this <;> try cases this
    rename_i xs
    cases xs with
    | nil => cases this
    | cons x r => exact ⟨x, r, rfl⟩
  · refine .inr fun d hd => ?_
    have := List.all_eq_true.mp h d hd
    cases d <;> simp only [noTup] at this <;> first | contradiction | (refine ⟨(fun z => ?_), (fun _ z => ?_)⟩ <;> cases z)
def sortL (ds : List D) : List D := ds.mergeSort (PySem.W.dataLe false D.py)
def okSort (ds : List D) : Bool := pures ds && likeB (ds.map D.py) && sortable (ds.map D.py) && decide (ds.length ≤ sizeLine) && ds.all fun d => decide (d.py.depth ≤ 60)
def sortLs (ds : List D) : Option (List D) := if okSort ds = true then some (sortL ds) else none
def sortedD : D → Option D
  | .lst ds => (sortLs ds).map .lst
  | _ => none
abbrev DV := D × V
def rSortD (G : Gx) : List V → Hp → VK → Prop := fun vs H Q => ∃ (a : Addr) (bs : List DV), vs = [V.ref a] ∧ SqL G.K H a (bs.map (·.2)) ∧ (∀ b ∈ bs, Rp G H b.2 b.1) ∧ okSort (bs.map (·.1)) = true ∧
  ∀ p, H p = none → Q (.ref p) (upd H p (.lst ((bs.mergeSort (PySem.W.dataLe false fun b : DV => b.1.py)).map (·.2))))
theorem each_dv {R : Value → DV → Prop} : ∀ {bs : List DV} {us : List Value}, Vals (bs.map (·.2)) us → (∀ b u, b ∈ bs → RelV b.2 u → R u b) → PySem.W.EachIs R us bs
  | [], _, h, _ => by cases h; exact .nil
  | b :: bs, _, h, k => by
    cases h with
    | cons r t => exact .cons (k _ _ List.mem_cons_self r) (each_dv t fun b' u hb => k b' u (List.mem_cons_of_mem _ hb))
theorem vals_dv : ∀ {bs : List DV} {us : List Value}, PySem.W.EachIs (fun u (b : DV) => RelV b.2 u) us bs → Vals (bs.map (·.2)) us
  | _, _, .nil => .nil
  | _, _, .cons r t => .cons r (vals_dv t)
theorem cr_sortD {G : Gx} {X : Cx} (hK : X.K = G.K) (hu : X.A.units + 65 < cLine) : CallR X (.builtin "sorted") (rSortD G) := by
  intro pins s σ H vs us Q I r h
  obtain ⟨a, bs, rfl, hs, hr, ok, q⟩ := h
  simp only [okSort, Bool.and_eq_true, decide_eq_true_eq] at ok
  obtain ⟨⟨⟨⟨c1, c2⟩, c3⟩, c4⟩, c5⟩ := ok
  rw [List.map_map] at c2 c3
  obtain ⟨its, rv, hl, hz⟩ := I.list (hK ▸ hs)
  rw [Vals.ref1 r]
  have pu : ∀ b ∈ bs, b.1.pure = true := fun b hb => by
    rw [pures_all] at c1
    exact List.all_eq_true.mp c1 b.1 (List.mem_map.mpr ⟨b, hb, rfl⟩)
  have er : PySem.W.EachIs (fun v (b : DV) => ∃ as, Reads s.heap v b.1.py as) its bs := each_dv rv fun b u hb ru => Dp.reads I _ _ _ (hK ▸ Rp.dp _ (hr b hb) (pu b hb)) ru
  have e0 : PySem.W.EachIs (fun v (b : DV) => RelV b.2 v) its bs := each_dv rv fun b u _ ru => ru
  have bd : ∀ b ∈ bs, X.A.units + 2 + (b.1.py).depth < cLine := fun b hb => by
    have := of_decide_eq_true (List.all_eq_true.mp c5 b.1 (List.mem_map.mpr ⟨b, hb, rfl⟩))
    omega
  refine PySem.W.sorted_data (R := fun v (b : DV) => RelV b.2 v) (enc := fun b : DV => b.1.py) (bs := bs) (vs := its) (by exact hl.isList) e0 er (likeB_ok c2) (sortable_ok c3) (by rw [List.length_map] at c4; exact c4) bd fun out lo eo => ?_
  obtain ⟨ep, he'⟩ := PyProof.Rows.sortedAll_at s.heap its (List.toArray out)
  have lo' : out.length ≤ sizeLine := by rw [lo]; rw [List.length_map] at c4; exact c4
  have hlen : ((bs.mergeSort (PySem.W.dataLe false fun b : DV => b.1.py)).map (·.2)).length ≤ sizeLine := by
    rw [List.length_map, List.length_mergeSort]; rw [List.length_map] at c4; exact c4
  exact ⟨.ref _, upd H (s.heap.objs.size + 1) (.lst ((bs.mergeSort (PySem.W.dataLe false fun b : DV => b.1.py)).map (·.2))), I.laid (t' := s.toks) (fun _ _ => PyProof.Rows.sortedAll_old) (Nat.le_succ _) ⟨hlen, out, ep, vals_dv eo, he'⟩, rfl, q _ (I.hok.fresh (Nat.le_succ _))⟩
theorem rpl_dv {G : Gx} {H : Hp} : ∀ {bs : List DV}, (∀ b ∈ bs, Rp G H b.2 b.1) → RpL G H (bs.map (·.2)) (bs.map (·.1))
  | [], _ => .nil
  | b :: bs, h => .cons (h b List.mem_cons_self) (rpl_dv fun c hc => h c (List.mem_cons_of_mem _ hc))
theorem dv_of {G : Gx} {H : Hp} : ∀ {vs : List V} {ds : List D}, RpL G H vs ds → ∃ bs : List DV, vs = bs.map (·.2) ∧ ds = bs.map (·.1) ∧ ∀ b ∈ bs, Rp G H b.2 b.1
  | _, _, .nil => ⟨[], rfl, rfl, fun _ z => absurd z List.not_mem_nil⟩
  | _, _, .cons r t => by
    obtain ⟨bs, rfl, rfl, h⟩ := dv_of t
    refine ⟨(_, _) :: bs, rfl, rfl, fun b hb => ?_⟩
    rcases List.mem_cons.mp hb with rfl | hb
    · exact r
    · exact h b hb
theorem cd_sorted {G : Gx} {X : Cx} (hu : X.A.units + 65 < cLine) (hK : X.K = G.K := by rfl) : CallD G X (.builtin "sorted") (op1 sortedD) := by
  refine ⟨_, cr_sortD hK hu, fun F σ H Hf ρ vs ds d Q R rs e0 q => ?_⟩
  obtain ⟨x, rfl, ee⟩ := op1_of e0
  obtain ⟨v, rfl, r⟩ := rs.one
  cases x with
  | lst ds =>
    obtain ⟨es, e1, rfl⟩ := Option.map_eq_some_iff.mp ee
    obtain ⟨ok, e1⟩ := ite_some' e1
    obtain ⟨p, ws, rfl, hp, rl⟩ := r.lst R.sub
    obtain ⟨bs, rfl, rfl, hb⟩ := dv_of rl
    refine ⟨p, bs, rfl, SqL.hp hp, fun b hb' => (hb b hb').mono R.sub, ok, fun l nl => ?_⟩
    have e2 : es = (bs.mergeSort (PySem.W.dataLe false fun b : DV => b.1.py)).map (·.1) := by
      rw [← e1]
      exact (List.map_mergeSort (f := fun b : DV => b.1) (r := PySem.W.dataLe false fun b : DV => b.1.py) (s := PySem.W.dataLe false D.py) (l := bs) (fun _ _ _ _ => rfl)).symm
    have rl2 := rpl_dv (bs := bs.mergeSort (PySem.W.dataLe false fun b : DV => b.1.py)) (fun b hb' => hb b ((List.mergeSort_perm _ _).mem_iff.mp hb'))
    rw [← e2] at rl2
    obtain ⟨R', s', r'⟩ := R.laid nl rl2
    exact q _ _ _ R' s' r'
  | _ => cases ee
/-- the same as a new list -/
def fSorted (o : Opd) : PEnv → Rs (List D) := fun ρ => (o.ev ρ).bind fun a ρ1 => Rs.lift ((a.dat ρ1).bind fun d => match d with
  | .lst ds => sortLs ds
  | _ => none) ρ1
end Spk

namespace Spk
open PySem PySem.Spec PyProof.Rows L2
section
variable {G : Gx} {X : Cx} {W : WX} {e o : Expr} {es : List Expr} {os : List Opd} {pos p apos : Pos} {x m : Str} {k j n : Nat} {ps : List Str} {fn : List Cell → Rs D} {f C : Addr} {fd : FuncData}
/-! ### classes made of any number of values, static methods -/
theorem mk_core {F : Fr} {σ : L2.St} {H0 Hf : Hp} {ρ : PEnv} {c : Str} {a : Addr} {vs : List V} {as : List Arg} {Q : VK} (lm : σ.length = ρ.length) (R1 : Rep G F (σ ++ [some (.ref a)]) H0 Hf (ρ ++ [.own (.obj c [] [])])) (ra : ArgsOk G (σ ++ [some (.ref a)]) Hf vs as)
    (p : PostE G F W σ Hf (fun d H' Hf' _ => ∀ v, Rp G Hf' v d → Q v H') (mkE n fn c [] as ρ)) :
    spD G n fn (.ref a :: vs) H0 (fun v H2 => v = .non ∧ Q (.ref a) H2) (fun c d H' => W c d σ H') := by
  have ra1 : ArgsOk G (σ ++ [some (.ref a)]) Hf (.ref a :: vs) (.sl ρ.length :: as) := .cons (by
    show (σ ++ [some (V.ref a)])[ρ.length]? = _
    rw [List.getElem?_append_right (by rw [lm]; exact Nat.le_refl _), lm, Nat.sub_self]; rfl) ra
  have e0 : V.ref a :: vs = (V.ref a :: vs) ++ [] := (List.append_nil _).symm
  rw [e0]
  refine app_ok (Qr := Qdat G) (vs := .ref a :: vs) (W := fun c d _ H' => W c d σ H') R1 ra1 .nil (fun _ _ _ _ _ h => h) ?_
  unfold mkE at p
  cases hr : appF n fn [] (.sl ρ.length :: as) (ρ ++ [.own (.obj c [] [])]) with
  | bad => rw [hr] at p; exact p.elim
  | exc E g d ρ2 =>
    simp only [hr] at p
    by_cases hl : ρ2.length = ρ.length + 1
    · rw [if_pos hl] at p
      exact fun v dd H' Hf' R' s r hd => p v dd H' Hf' (R'.cut lm hl) s r hd
    · rw [if_neg hl] at p; exact p.elim
  | ok d ρ2 =>
    simp only [hr] at p
    cases d with
    | non =>
      cases hc : ρ2[ρ.length]? with
      | none => simp only [hc] at p; exact p.elim
      | some cl =>
        simp only [hc] at p
        cases cl with
        | own mm =>
          cases mm with
          | obj C' ks ds =>
            change PostE G F W σ Hf _ (if C' = c ∧ ρ2.length = ρ.length + 1 then Rs.ok (D.ins c ks ds) (ρ2.take ρ.length) else Rs.bad) at p
            by_cases hl : C' = c ∧ ρ2.length = ρ.length + 1
            · rw [if_pos hl] at p
              obtain ⟨rfl, hl⟩ := hl
              intro H' Hf' R' s v r
              obtain ⟨Hf2, s2, R2, r2⟩ := R'.pop lm hc hl
              exact ⟨rp_n r, p H' Hf2 R2 (s.trans s2) _ r2⟩
            · rw [if_neg hl] at p; exact p.elim
          | lst ds => exact p.elim
        | _ => exact p.elim
    | _ => exact p.elim
theorem star1_ok {F : Fr} {σ : L2.St} {H Hf : Hp} {ρ : PEnv} {c : Str} {vs : List V} {ds : List D} {Q : VK} (R : Rep G F σ H Hf ρ) (rl : RpL G Hf vs ds) (hl : ds.length ≤ sizeLine)
    (p : PostE G F W σ Hf (fun d H' Hf' _ => ∀ v, Rp G Hf' v d → Q v H') (mkE n fn c [] [.val (.tup ds)] ρ)) {a dx : Addr} (na : H a = none) (nd : H dx = none) (ne : dx ≠ a) :
    spStar 1 (spD G n fn) (.ref a :: vs) (upd (upd H dx (.own a)) a (.ins (G.cm c) dx [])) (fun v H2 => v = .non ∧ Q (.ref a) H2) (fun c d H' => W c d σ H') := by
  refine ⟨[.ref a], vs, rfl, rfl, by rw [rl.len]; exact hl, fun q nq => ?_⟩
  have R1 := R.push (c := c) na nd ne
  have nf := R1.nf nq
  have R2 := R1.new nq (.tup vs)
  have sf : Same Hf (upd Hf q (.tup vs)) := Same.new nf
  have rt : Rp G (upd Hf q (.tup vs)) (.ref q) (.tup ds) := .tup (SqT.hp upd_same) (rl.mono sf)
  exact mk_core (W := W) R.len R2 (.cons (show ArgOk G _ _ _ (.val (.tup ds)) from rt) .nil) (p.mono sf)
/-- C(*x) -/
def eMkS (n : Nat) (fn : List Cell → Rs D) (c : Str) (fe : EX) : EX := fun ρ => (fe ρ).bind fun d ρ1 => match seqD d with
  | some ds => if ds.length ≤ sizeLine then (mkE n fn c [] [.val (.tup ds)] ρ1).nx else .bad
  | none => .bad
theorem de_mkS {c : Str} {fe : EX} {sp_ : Pos} (R : RdyMs X.prog X.w X.K X.mg X.base x (G.cm c) k (spStar 1 (spD G n fn)) f) (rm : Room j X.A) (hj : k + 1 ≤ j) (hg : Gl X x) (he : DE G X W e fe) (hK : X.K = G.K := by rfl) (hdb : (x == ("__debug__" : Str)) = false := by decide)
    (hst : starEach [.Starred e sp_] X.env = [(true, eval e X.env)] := by rfl) : DE G X W (.Call (.Name x p) [.Starred e sp_] [] pos) (eMkS n fn c fe) := by
  obtain ⟨t1, p1, q1⟩ := DE.elim he
  refine DE.intro ⟨_, pe_rdyMs R rm hj hg p1 hdb hst, fun F σ H Hf ρ Q R0 p => ?_⟩
  refine q1 F σ H Hf ρ _ R0 ((PostE.bind p).imp fun d H1 Hf1 ρ1 _ R1 s1 p v r => ?_)
  cases hd : seqD d with
  | none => simp only [hd] at p; exact p.elim
  | some ds =>
    simp only [hd] at p
    by_cases hl : ds.length ≤ sizeLine
    · rw [if_pos hl] at p
      have go : ∀ xs, RpL G Hf1 xs ds → ∀ x dx, H1 x = Option.none → H1 dx = Option.none → dx ≠ x → spStar 1 (spD G n fn) (V.ref x :: xs) (upd (upd H1 dx (.own x)) x (.ins (G.cm c) dx [])) (fun v H2 => v = .non ∧ Q (.ref x) H2) E0 :=
        fun xs rl a dx na nd ne => star1_ok (W := W0) R1 rl hl (PostE.nx (W := W) p) na nd ne
      cases d <;> simp only [seqD] at hd <;> cases hd
      · cases r with | lst q rl => exact ⟨_, _, rfl, .inr (SqL.hp (R1.sub _ _ q)), go _ rl⟩
      · cases r with | tup q rl => exact ⟨_, _, rfl, .inl (hK ▸ sameT R1.sub q), go _ rl⟩
      · cases r with | scr q => exact ⟨_, _, rfl, .inr (hK ▸ R1.sub.seq q), go _ (RpL.ints _)⟩
    · rw [if_neg hl] at p; exact p.elim
/-- C(a, ..) -/
def eMkS1 (n : Nat) (fn : List Cell → Rs D) (c : Str) (os : List Opd) : EX := fun ρ => (evs os ρ).bind fun as ρ1 => match vals? as with
  | some ds => if ds.length ≤ sizeLine then (mkE n fn c [] [.val (.tup ds)] ρ1).nx else .bad
  | none => .bad
theorem de_mkS1 {c : Str} (R : RdyMs X.prog X.w X.K X.mg X.base x (G.cm c) k (spStar 1 (spD G n fn)) f) (rm : Room j X.A) (hj : k + 1 ≤ j) (hg : Gl X x) (ha : DA G X W (e :: es) os) (hdb : (x == ("__debug__" : Str)) = false := by decide)
    (he : starEach (e :: es) X.env = (false, eval e X.env) :: starEach es X.env := by rfl) (hpl : (backTo pos (starEach es X.env)).any (·.1) = false := by rfl) : DE G X W (.Call (.Name x p) (e :: es) [] pos) (eMkS1 n fn c os) := by
  obtain ⟨t1, p1, q1⟩ := ha
  refine DE.intro ⟨_, pe_rdyMs1 R rm hj hg p1 hdb he hpl, fun F σ H Hf ρ Q R0 p => ?_⟩
  refine q1 F σ H Hf ρ _ R0 ((PostE.bind p).imp fun as H1 Hf1 ρ1 _ R1 s1 p vs rs a dx na nd ne => ?_)
  cases hd : vals? as with
  | none => simp only [hd] at p; exact p.elim
  | some ds =>
    simp only [hd] at p
    by_cases hl : ds.length ≤ sizeLine
    · rw [if_pos hl] at p
      exact star1_ok (W := W0) R1 (rs.vals hd) hl (PostE.nx (W := W) p) na nd ne
    · rw [if_neg hl] at p; exact p.elim
/-- C() -/
def eMkS0 (n : Nat) (fn : List Cell → Rs D) (c : Str) : EX := fun ρ => (mkE n fn c [] [.val (.tup [])] ρ).nx
theorem de_mkS0 {c : Str} (R : RdyMs X.prog X.w X.K X.mg X.base x (G.cm c) k (spStar 1 (spD G n fn)) f) (rm : Room j X.A) (hj : k + 1 ≤ j) (hg : Gl X x) (hdb : (x == ("__debug__" : Str)) = false := by decide) : DE G X W (.Call (.Name x p) [] [] pos) (eMkS0 n fn c) := by
  refine DE.intro ⟨_, pe_rdyMs0 R rm hj hg hdb, fun F σ H Hf ρ Q R0 p a dx na nd ne => ?_⟩
  exact star1_ok (W := W0) R0 .nil (Nat.zero_le _) (PostE.nx (W := W) p) na nd ne
/-- C.m(a, ..), m a static method -/
theorem de_smeth {pl : Sem Bool} (R : RdyS X.prog X.w X.K X.mg X.base x C m k (spD G n fn) f) (rm : Room j X.A) (hj : k ≤ j) (hg : Gl X x) (ha : DA G X W (e :: es) os)
    (hst : starEach (e :: es) X.env = (false, eval e X.env) :: starEach es X.env := by rfl) (hpl : (backTo pos (starEach es X.env)).any (·.1) = false := by rfl)
    (ht : eval (.Call (.Attribute (.Name x p) m apos) (e :: es) [] pos) X.env = (do
      let ov ← eval (.Name x p) X.env
      standAt apos.atName
      let (f, first) ← holding [ov] (getMethod ov m pl)
      callWith pos f first (backTo pos (starEach (e :: es) X.env)) (backToKw pos (keywordEach [] X.env))) := by rfl)
    (hdb : (x == ("__debug__" : Str)) = false := by decide) : DE G X W (.Call (.Attribute (.Name x p) m apos) (e :: es) [] pos) (eCall n fn [] os) :=
  call_e0 (dvs := []) (dfl := []) ha (fun _ => .nil) fun h => by
    have z := pe_rdyS (pl := pl) R rm hj hg h hst hpl ht hdb
    simp only [List.append_nil]
    exact z
/-- x.p, p a property -/
def eProp (c : Str) (fn : List Cell → Rs D) (fo : EX) : EX := fun ρ => (fo ρ).bind fun d ρ1 => match d with
      | .ins C ks ds => if C = c then (appF 1 fn [] [.val (.ins C ks ds)] ρ1).nx else .bad
      | _ => .bad
theorem de_propE {c g : Str} {q : Addr} {fo : EX} (h : DE G X W o fo) (R : RdyPr X.prog X.w X.K X.mg X.base (G.cm c) g k (spD G 1 fn) q f fd) (hc : Cls X.K (G.cm c)) (rm : Room j X.A) (hj : k + 1 ≤ j) (hb : attributeBase o g X.env (eval o X.env) = eval o X.env := by rfl) :
    DE G X W (.Attribute o g pos) (eProp c fn fo) := de_prop h R hc rm hj hb
end
/-! ### defs with defaults that give new lists -/
section
variable {G : Gx} {X : Cx} {W : WX} {e o : Expr} {es : List Expr} {os : List Opd} {pos p apos : Pos} {x m : Str} {k j n : Nat} {ps : List Str} {fl : List Cell → Rs (List D)} {f C : Addr} {fd : FuncData}
theorem df_callD {dvs : List V} (R : RdyD X.prog X.w X.K X.mg X.base x k ps dvs (spF G n fl) f fd) (rm : Room j X.A) (hj : k ≤ j) (hg : Gl X x) (ha : DA G X W (e :: es) os) (hdb : (x == ("__debug__" : Str)) = false := by decide)
    (he : starEach (e :: es) X.env = (false, eval e X.env) :: starEach es X.env := by rfl) (hpl : (backTo pos (starEach es X.env)).any (·.1) = false := by rfl) : DF G X W (.Call (.Name x p) (e :: es) [] pos) (eCall n fl [] os) :=
  call_f0 ha (fun _ => .nil) fun pa => pe_rdyD R rm hj hg pa hdb he hpl
theorem df_callD1 {dvs : List V} {dfl : List D} (R : RdyD X.prog X.w X.K X.mg X.base x k ps dvs (spF G n fl) f fd) (rm : Room j X.A) (hj : k ≤ j) (hg : Gl X x) (ha : DA G X W (e :: es) os) (rd : ∀ Hf, RpL G Hf dvs dfl) (hdb : (x == ("__debug__" : Str)) = false := by decide)
    (he : starEach (e :: es) X.env = (false, eval e X.env) :: starEach es X.env := by rfl) (hpl : (backTo pos (starEach es X.env)).any (·.1) = false := by rfl) : DF G X W (.Call (.Name x p) (e :: es) [] pos) (eCall n fl dfl os) :=
  call_f0 ha rd fun pa => pe_rdyD1 R rm hj hg pa hdb he hpl
theorem call_fx {ex : Expr} {dvs : List V} {dfl : List D} (ha : DA G X W es os) (rd : ∀ Hf, RpL G Hf dvs dfl) (mk : ∀ {t : TA}, PA X es t → PE X ex (fun σ H Q => t σ H fun vs H1 => spF G n fl (vs ++ dvs) H1 Q (WE W σ))) : DF G X W ex (eCallX n fl dfl os) := by
  obtain ⟨t1, p1, q1⟩ := ha
  refine ⟨_, mk p1, fun F σ H Hf ρ Q R p => ?_⟩
  refine q1 F σ H Hf ρ _ R ((PostE.bind p).imp fun as H1 Hf1 ρ1 _ R1 s1 p vs rs => ?_)
  exact app_ok (W := W) R1 rs (rd Hf1) (fun _ _ _ _ _ h => h) p
theorem df_callXS (R : RdyX X.prog X.w X.K X.mg X.base x k ps (spF G n fl) f fd) (rm : Room j X.A) (hj : k ≤ j) (hg : Gl X x) (tk : Takes X W) (ha : DA G X W (e :: es) os) (hdb : (x == ("__debug__" : Str)) = false := by decide)
    (he : starEach (e :: es) X.env = (false, eval e X.env) :: starEach es X.env := by rfl) (hpl : (backTo pos (starEach es X.env)).any (·.1) = false := by rfl) : DF G X W (.Call (.Name x p) (e :: es) [] pos) (eCallX n fl [] os) :=
  call_fx ha (fun _ => .nil) fun pa => pe_callSD R.ok (rm.mono hj) hg R.gl R.kp R.bd .nil (fun σ => passAt tk σ) pa hdb he hpl
theorem df_callXD {dvs : List V} (R : RdyXD X.prog X.w X.K X.mg X.base x k ps dvs (spF G n fl) f fd) (rm : Room j X.A) (hj : k ≤ j) (hg : Gl X x) (tk : Takes X W) (ha : DA G X W (e :: es) os) (hdb : (x == ("__debug__" : Str)) = false := by decide)
    (he : starEach (e :: es) X.env = (false, eval e X.env) :: starEach es X.env := by rfl) (hpl : (backTo pos (starEach es X.env)).any (·.1) = false := by rfl) : DF G X W (.Call (.Name x p) (e :: es) [] pos) (eCallX n fl [] os) :=
  call_fx ha (fun _ => .nil) fun pa => pe_callSD R.ok (rm.mono hj) hg R.gl R.kp R.bd .nil (fun σ => passAt tk σ) pa hdb he hpl
theorem df_callXD1 {dvs : List V} {dfl : List D} (R : RdyXD X.prog X.w X.K X.mg X.base x k ps dvs (spF G n fl) f fd) (rm : Room j X.A) (hj : k ≤ j) (hg : Gl X x) (tk : Takes X W) (ha : DA G X W (e :: es) os) (rd : ∀ Hf, RpL G Hf dvs dfl) (hdb : (x == ("__debug__" : Str)) = false := by decide)
    (he : starEach (e :: es) X.env = (false, eval e X.env) :: starEach es X.env := by rfl) (hpl : (backTo pos (starEach es X.env)).any (·.1) = false := by rfl) : DF G X W (.Call (.Name x p) (e :: es) [] pos) (eCallX n fl dfl os) := by
  obtain ⟨ds, hv, bd⟩ := R.bd1
  exact call_fx ha rd fun pa => pe_callSD R.ok (rm.mono hj) hg R.gl R.kp bd hv (fun σ => passAt tk σ) pa hdb he hpl
end
end Spk

namespace Spk
open PySem PySem.Spec PyProof.Rows L2
/-! ### the end of a law over the pure layer -/
theorem FnG.imp {P : Program} {w : World} {K : PySem.W.Frag} {mg : Str → Option Value} {bh : Heap} {k : Nat} {f : Addr} {fd : FuncData} {ps : List Str} {sp sp' : Sp} (F : FnG P w K mg bh k f fd ps sp) (h : ∀ vs H Q E, sp' vs H Q E → sp vs H Q E) : FnG P w K mg bh k f fd ps sp' :=
  ⟨fun ws J R U z => F.lenG ws J R U (h _ _ _ _ z), fun B ou t J ar xs ws R U g rm e b v z => F.runG B ou t J ar xs ws R U g rm e b v (h _ _ _ _ z)⟩
def lawSp (K : PySem.W.Frag) : Sp := fun vs H Q _ => ∃ (a : Addr) (ns : List Int), vs = [.ref a] ∧ SqL K H a (ns.map V.int) ∧ ns.length ≤ 63 ∧ ∀ H', Q (.bl true) H'
theorem law_sp {K : PySem.W.Frag} {cm : Str → Addr} {fn : List Cell → Rs D} (hf : ∀ ns : List Int, ns.length ≤ 63 → ∃ es, fn [.val (.scr ns)] = .ok (.bl true) es) : ∀ vs H Q E, lawSp K vs H Q E → spD (Gx.mk K cm none) 1 fn vs H Q E := by
  rintro vs H Q E ⟨a, ns, rfl, hs, hl, q⟩
  obtain ⟨es, he⟩ := hf ns hl
  refine ⟨⟨fun _ => none, fun _ => a⟩, H, [.val (.scr ns)], rfl, ⟨rfl, Same.refl _, fun i c e => ?_, fun i j ci cj ds es p ei ej mi mj _ _ => ?_, fun b o e => nomatch e⟩, ?_⟩
  · match i, e with
    | 0, e =>
      obtain rfl := Option.some.inj (show some (Cell.val (.scr ns)) = some c from e)
      exact ⟨.ref a, rfl, .scr hs⟩
  · match i, ei with
    | 0, ei =>
      obtain rfl := Option.some.inj (show some (Cell.val (.scr ns)) = some ci from ei)
      cases mi
  · rw [he]
    intro H' Hf' R s v r
    cases r
    exact q H'
theorem bi_of {K : PySem.W.Frag} {T : String} {tb : List (String × Bool)} (h : tb.all (fun q => kitB q.1 T == some q.2) = true) : ∀ a b, tb.lookup a = some b → PySem.W.kitOne K (.type a) (.type T) = some b := by
  intro a b e
  induction tb with
  | nil => cases e
  | cons q r ih =>
    obtain ⟨x, y⟩ := q
    rw [List.all_cons, Bool.and_eq_true] at h
    rw [List.lookup_cons] at e
    by_cases c : a = x
    · subst c
      simp only [beq_self_eq_true] at e
      cases e
      exact kit_ty (by simpa using h.1)
    · have : (a == x) = false := by simpa using c
      rw [this] at e
      exact ih h.2 e
theorem ow_of {G : Gx} {u : Value} {ow : List (Str × Bool)} (h : ∀ q ∈ ow, InsTy G q.1 ∧ PySem.W.kitOne G.K (.ref (G.cm q.1)) u = some q.2) : ∀ c b, ow.lookup c = some b → InsTy G c ∧ PySem.W.kitOne G.K (.ref (G.cm c)) u = some b := by
  intro a b e
  induction ow with
  | nil => cases e
  | cons q r ih =>
    obtain ⟨x, y⟩ := q
    rw [List.lookup_cons] at e
    by_cases c : a = x
    · subst c
      simp only [beq_self_eq_true] at e
      cases e
      exact h _ List.mem_cons_self
    · have : (a == x) = false := by simpa using c
      rw [this] at e
      exact ih (fun q hq => h q (List.mem_cons_of_mem _ hq)) e
theorem no_type (K : PySem.W.Frag) (u : Value) : ∀ a b, ([] : List (String × Bool)).lookup a = some b → PySem.W.kitOne K (.type a) u = some b := fun _ _ e => nomatch e
theorem ty_of {K : PySem.W.Frag} {u : Value} {tb : List (String × Bool)} (h : ∀ q ∈ tb, PySem.W.kitOne K (.type q.1) u = some q.2) : ∀ a b, tb.lookup a = some b → PySem.W.kitOne K (.type a) u = some b := by
  intro a b e
  induction tb with
  | nil => cases e
  | cons q r ih =>
    obtain ⟨x, y⟩ := q
    rw [List.lookup_cons] at e
    by_cases c : a = x
    · subst c
      simp only [beq_self_eq_true] at e
      cases e
      exact h _ List.mem_cons_self
    · have : (a == x) = false := by simpa using c
      rw [this] at e
      exact ih (fun q hq => h q (List.mem_cons_of_mem _ hq)) e
def isTy : Value → Bool
  | .type _ => true
  | _ => false
/-- isinstance of a built-in's value by an own class: no -/
theorem kit_tyOwn {K : PySem.W.Frag} {C : Addr} {T : String} (hT : ((PySem.fastBuiltinMro T).map fun l => l.all isTy) = some true) (h2 : PySem.W.isClsIn K C = true) (h3 : PySem.W.typeIn K (.ref C) = some (.type "type")) : PySem.W.kitOne K (.type T) (.ref C) = some false := by
  have e : (Value.type T == Value.ref C) = false := rfl
  show (if (Value.type T == Value.ref C) = true then some true else PySem.W.kitCls K (.type T) (.ref C)) = some false
  rw [e, if_neg Bool.false_ne_true]
  refine kit_mk h2 h3 ?_
  show (PySem.fastBuiltinMro T).map (fun l => l.contains (Value.ref C)) = some false
  obtain ⟨l, h1, h2⟩ := Option.map_eq_some_iff.mp hT
  rw [h1, Option.map_some]
  congr 1
  rw [Bool.eq_false_iff]
  intro hc
  have hm : Value.ref C ∈ l := by simpa using hc
  have := List.all_eq_true.mp h2 _ hm
  cases this
end Spk

namespace SpkB
open PySem
open PySem.Sem (wp)
/-- bool(a tuple) -/
theorem meets_tup (l : Addr) (items : Array Value) (hfit : (items.size : Int) < 2 ^ 63) :
    Meets (Builtin.«bool.__new__» ⟨[.type "bool", .ref l], []⟩) (fun _ R s => PyProof.Rows.IsTup s.heap l items ∧ R (.ok (.ret (.bool (!items.isEmpty)))) { s with toks := s.toks + 1 + 1 }) :=
  Meets.of_wp fun prog w A R s hs => by
    obtain ⟨hl, hs⟩ := hs
    obtain ⟨hp, g, d, tk, os⟩ := s
    have f1 := F.conv_sub_bool
    repeat (any_goals (first | assumption | (with_reducible refine PyProof.Rows.truthy_tuple hl hfit ?_) | wp_step))
    all_goals first | exact ⟨_, rfl, hs⟩ | exact hs | skip
theorem call_tup {prog : Program} {w : World} {A : Around} {E : Value → Shared → Prop} {s : Shared} {l : Addr} {items : Array Value} {Q : Value → Shared → Prop} (hfit : (items.size : Int) < 2 ^ 63) (hl : PyProof.Rows.IsTup s.heap l items)
    (h : Q (.bool (!items.isEmpty)) { s with toks := s.toks + 1 + 1 }) : wpAny (model prog w) A (call (.type "bool") [.ref l]) Q E s :=
  call_bool_1 (meets_tup l items hfit) ⟨hl, rfl, h⟩
end SpkB
namespace Spk
open PySem PySem.Spec PyProof.Rows L2
theorem call_boolT {X : Cx} : CallR X (.type "bool") (fun xs H Q => ∃ (a : Addr) (zs : List V), xs = [.ref a] ∧ SqT X.K H a zs ∧ Q (.bl (!zs.isEmpty)) H) := by
  intro pins s σ H xs us Q I r h
  obtain ⟨a, zs, rfl, hq, q⟩ := h
  obtain rfl := Vals.ref1 r
  obtain ⟨its, rv, pl, hz⟩ := I.tuple hq
  have hl := line63
  have hlen := rv.length
  refine SpkB.call_tup (by simp only [List.size_toArray]; omega) pl ?_
  exact ⟨.bl (!zs.isEmpty), H, I.tok _, by rw [isEmpty_of rv]; rfl, q⟩
def boolD2 : D → Option D
  | .tup ds => some (.bl (!ds.isEmpty))
  | d => boolD d
theorem RpL.nil_iff {G : Gx} {H : Hp} {vs : List V} {ds : List D} (h : RpL G H vs ds) : vs.isEmpty = ds.isEmpty := by cases h <;> rfl
theorem cd_bool2 {G : Gx} {X : Cx} (hK : X.K = G.K := by rfl) : CallD G X (.type "bool") (op1 boolD2) := by
  refine ⟨_, callr_or (hK ▸ call_boolT) call_bool1, fun F σ H Hf ρ vs ds d Q R rs e0 q => ?_⟩
  obtain ⟨x, rfl, ee⟩ := op1_of e0
  obtain ⟨v, rfl, r⟩ := rs.one
  cases x <;> simp [boolD2, boolD] at ee <;> cases ee
  · obtain rfl := r.b
    exact .inr (.inr ⟨_, rfl, q _ H Hf R (Same.refl _) (.bl _)⟩)
  · obtain rfl := r.i
    exact .inr (.inl ⟨_, rfl, q _ H Hf R (Same.refl _) (.bl _)⟩)
  · obtain ⟨p, ws, rfl, hp, rl⟩ := r.t R.sub
    exact .inl ⟨p, ws, rfl, hp, by rw [rl.nil_iff]; exact q _ H Hf R (Same.refl _) (.bl _)⟩
/-! ### own ==, in, bool; is of truths -/
/-- what an own method of two tells, where it changes nothing -/
def ans2 (fn : List Cell → Rs D) (x y : D) : Option D := match fn [.val x, .val y] with
  | .ok d [_, _] => some d
  | _ => none
def ans1 (fn : List Cell → Rs D) (x : D) : Option D := match fn [.val x] with
  | .ok d [_] => some d
  | _ => none
theorem ans2_of {fn : List Cell → Rs D} {x y d : D} (h : ans2 fn x y = some d) : ∃ c e, fn [.val x, .val y] = .ok d [c, e] := by
  unfold ans2 at h
  split at h
  · rename_i e; cases h; exact ⟨_, _, e⟩
  · cases h
theorem ans1_of {fn : List Cell → Rs D} {x d : D} (h : ans1 fn x = some d) : ∃ c, fn [.val x] = .ok d [c] := by
  unfold ans1 at h
  split at h
  · rename_i e; cases h; exact ⟨_, e⟩
  · cases h
theorem app2 {fn : List Cell → Rs D} {x y d : D} (h : ans2 fn x y = some d) (ρ : PEnv) : appF 2 fn [] [.val x, .val y] ρ = .ok d ρ := by
  obtain ⟨c, e, he⟩ := ans2_of h
  simp [appF, sls, cells, Arg.cell, he, wb]
theorem app1 {fn : List Cell → Rs D} {x d : D} (h : ans1 fn x = some d) (ρ : PEnv) : appF 1 fn [] [.val x] ρ = .ok d ρ := by
  obtain ⟨c, he⟩ := ans1_of h
  simp [appF, sls, cells, Arg.cell, he, wb]
def blOf : Option D → Option D
  | some (.bl b) => some (.bl b)
  | _ => none
theorem blOf_some {o : Option D} {d : D} (h : blOf o = some d) : ∃ b, o = some (.bl b) ∧ d = .bl b := by
  unfold blOf at h
  split at h
  · cases h; exact ⟨_, rfl, rfl⟩
  · cases h
def ownB (c e : Str) (fn : List Cell → Rs D) (x y : D) : Option D := if isIns c x = true ∧ isIns e y = true then blOf (ans2 fn x y) else none
def inB (c : Str) (fn : List Cell → Rs D) (y x : D) : Option D := if isIns c x = true then (match y with
  | .lst _ => none
  | _ => blOf (ans2 fn x y)) else none
section
variable {G : Gx} {X : Cx} {W : WX} {a : Expr} {k j : Nat} {f : Addr} {fn : List Cell → Rs D} {c e : Str} {pos : Pos} {fa : EX}
theorem run2 {F : Fr} {σ : L2.St} {H Hf : Hp} {ρ : PEnv} {v w : V} {x y d : D} {Q : VK} (R : Rep G F σ H Hf ρ) (rx : Rp G Hf v x) (ry : Rp G Hf w y) (h : ans2 fn x y = some d) (q : ∀ u H' Hf', Rep G F σ H' Hf' ρ → Same Hf Hf' → Rp G Hf' u d → Q u H') : spD G 2 fn [v, w] H Q E0 := by
  refine app_ok (vs := [v, w]) (as := [.val x, .val y]) (W := W0) R (.cons rx (.cons ry .nil)) .nil (fun _ _ _ _ _ h => h) ?_
  rw [app2 h]
  exact fun H' Hf' R' s u ru => q u H' Hf' R' s ru
theorem run1 {F : Fr} {σ : L2.St} {H Hf : Hp} {ρ : PEnv} {v : V} {x d : D} {Q : VK} (R : Rep G F σ H Hf ρ) (rx : Rp G Hf v x) (h : ans1 fn x = some d) (q : ∀ u H' Hf', Rep G F σ H' Hf' ρ → Same Hf Hf' → Rp G Hf' u d → Q u H') : spD G 1 fn [v] H Q E0 := by
  refine app_ok (vs := [v]) (as := [.val x]) (W := W0) R (.cons rx .nil) .nil (fun _ _ _ _ _ h => h) ?_
  rw [app1 h]
  exact fun H' Hf' R' s u ru => q u H' Hf' R' s ru
theorem Rq.ins {H Hf : Hp} {v : V} {d : D} (h : Rq G H Hf v d) (c : isIns c d = true) : Rp G Hf v d := h.nl fun ds z => by rw [z] at c; cases c
theorem od_eqOwn (R : RdyOp X.prog X.w X.K X.mg X.base (G.cm c) "__eq__" k (spD G 2 fn) f) (rm : Room j X.A) (hj : k ≤ j) (hn : PySem.W.notFirst X.K (G.cm c) (.ref (G.cm e)) = true) : OpD G X (compareOp .Eq) (ownB c e fn) := by
  refine ⟨_, op_eqOwn R.ok rm hj hn R.at_ R.fn, fun F σ H Hf ρ v w x y d Q R0 rx ry h q => ?_⟩
  unfold ownB at h
  by_cases cc : isIns c x = true ∧ isIns e y = true
  · rw [if_pos cc] at h
    obtain ⟨b, h0, rfl⟩ := blOf_some h
    have rx := rx.ins cc.1
    have ry := ry.ins cc.2
    obtain ⟨a1, dx, fs, e1, h1⟩ := ins_of rx cc.1
    obtain ⟨b1, dy, gs, e2, h2⟩ := ins_of ry cc.2
    exact ⟨a1, b1, dx, dy, fs, gs, e1, e2, R0.sub _ _ h1, R0.sub _ _ h2, run2 R0 rx ry h0 fun u H' Hf' R' s ru => ⟨⟨b, rp_b ru⟩, q u H' Hf' R' s ru⟩⟩
  · rw [if_neg cc] at h; cases h
theorem od_inOwn (R : RdyOp X.prog X.w X.K X.mg X.base (G.cm c) "__contains__" k (spD G 2 fn) f) (rm : Room j X.A) (hj : k ≤ j) : OpD G X (compareOp .In) (inB c fn) := by
  refine ⟨_, op_inOwn R.ok rm hj R.at_ R.fn, fun F σ H Hf ρ v w y x d Q R0 ry rx h q => ?_⟩
  unfold inB at h
  by_cases cc : isIns c x = true
  · rw [if_pos cc] at h
    have rx := rx.ins cc
    obtain ⟨a1, dx, fs, e1, h1⟩ := ins_of rx cc
    have hy : (∀ ds, y ≠ .lst ds) ∧ blOf (ans2 fn x y) = some d := by
      cases y with
      | lst ds => cases h
      | _ => exact ⟨fun _ z => (nomatch z), h⟩
    obtain ⟨b, h0, rfl⟩ := blOf_some hy.2
    have ry := ry.nl hy.1
    exact ⟨a1, dx, fs, e1, R0.sub _ _ h1, run2 R0 rx ry h0 fun u H' Hf' R' s ru => ⟨⟨b, rp_b ru⟩, q u H' Hf' R' s ru⟩⟩
  · rw [if_neg cc] at h; cases h
/-- an instance as a test -/
def bBoolO (c : Str) (fn : List Cell → Rs D) (fa : EX) : BX := fun ρ => (fa ρ).bind fun x ρ1 => if isIns c x = true then (match ans1 fn x with
  | some (.bl b) => .ok b ρ1
  | _ => .bad) else .bad
theorem dt_boolO (ha : DE G X W a fa) (R : RdyOp X.prog X.w X.K X.mg X.base (G.cm c) "__bool__" k (spD G 1 fn) f) (rm : Room j X.A) (hj : k ≤ j)
    (he : ∀ whole, isTrue a X.env whole = (do let v ← whole; standAt a.pos; holding [v] (truthy v)) := by intro _; rfl) : DT G X W a (bBoolO c fn fa) := by
  obtain ⟨t1, p1, q1⟩ := DE.elim ha
  refine ⟨_, pt_boolOwn p1 R.ok rm hj R.at_ R.fn he, fun F σ H Hf ρ Q Rr p => ?_⟩
  refine q1 F σ H Hf ρ _ Rr ((PostE.bind p).imp fun x H1 Hf1 ρ1 _ R1 s1 p v r1 => ?_)
  by_cases cc : isIns c x = true
  · rw [if_pos cc] at p
    obtain ⟨a1, dx, fs, e1, h1⟩ := ins_of r1 cc
    subst e1
    cases h : ans1 fn x with
    | none => rw [h] at p; exact p.elim
    | some d =>
      rw [h] at p
      cases d with
      | bl b => exact ⟨a1, dx, fs, rfl, R1.sub _ _ h1, run1 R1 r1 h fun u H' Hf' R' s ru => ⟨b, rp_b ru, p H' Hf' R' s⟩⟩
      | _ => exact p.elim
  · rw [if_neg cc] at p; exact p.elim
def tNotOwn (C : Addr) (sp : Sp) (ta : TE) : TE := fun σ H Q => ta σ H fun x H1 => ∃ a dx fs, x = .ref a ∧ H1 a = some (.ins C dx fs) ∧ sp [x] H1 (fun v H' => ∃ c, v = .bl c ∧ Q (.bl (!c)) H') E0
theorem pe_notOwn {C : Addr} {sp : Sp} {ta : TE} (ha : PE X a ta) (F : FnR X.prog X.w X.K X.mg X.base CX0 k f sp) (rm : Room j X.A) (hj : k ≤ j) (hs : PySem.W.findIn X.K (.ref C) "__bool__" = some (some (.ref f))) (hf : PySem.W.isFn X.K (.ref f) = true) : PE X (.UnaryOp .Not a pos) (tNotOwn C sp ta) := by
  refine ⟨fun pins s σ H Q I h => ?_⟩
  refine UnaryOp_ (thn (ha.run pins s σ H _ I h) fun v s1 ⟨x, H1, I1, rx, o, dx, fs, ex, ho, hsp⟩ => ?_)
  subst ex
  obtain rfl : v = Value.ref o := rx
  obtain ⟨mA, J, _⟩ := ins_get I1.hok ho
  obtain ⟨od, J, _⟩ := J.look
  obtain ⟨m, hF⟩ := I1.fr
  refine not_of (PySem.W.truthy_K hF I.ok.mod.kin J hs hf ?_)
  refine thn (run_at F (rm.mono hj) rfl I1 (vs := [V.ref o]) (.cons rfl .nil) hsp) fun w s' ⟨z, H', I', rz, c, ez, q⟩ => ?_
  subst ez
  cases rz
  exact ⟨.bl (!c), H', I', rfl, q⟩
def eNotO (c : Str) (fn : List Cell → Rs D) (fa : EX) : EX := fun ρ => (bBoolO c fn fa ρ).bind fun b ρ1 => .ok (.bl (!b)) ρ1
theorem de_notO (ha : DE G X W a fa) (R : RdyOp X.prog X.w X.K X.mg X.base (G.cm c) "__bool__" k (spD G 1 fn) f) (rm : Room j X.A) (hj : k ≤ j) : DE G X W (.UnaryOp .Not a pos) (eNotO c fn fa) := by
  obtain ⟨t1, p1, q1⟩ := DE.elim ha
  refine DE.intro ⟨_, pe_notOwn p1 R.ok rm hj R.at_ R.fn, fun F σ H Hf ρ Q Rr p => ?_⟩
  refine q1 F σ H Hf ρ _ Rr ((PostE.bind (PostE.bind p)).imp fun x H1 Hf1 ρ1 _ R1 s1 p v r1 => ?_)
  by_cases cc : isIns c x = true
  · rw [if_pos cc] at p
    obtain ⟨a1, dx, fs, e1, h1⟩ := ins_of r1 cc
    subst e1
    cases h : ans1 fn x with
    | none => rw [h] at p; exact p.elim
    | some d =>
      rw [h] at p
      cases d with
      | bl b =>
        have p := p H1 Hf1 R1 (Same.refl _)
        exact ⟨a1, dx, fs, rfl, R1.sub _ _ h1, run1 R1 r1 h fun u H' Hf' R' s ru => ⟨b, rp_b ru, p H' Hf' R' s _ (.bl _)⟩⟩
      | _ => exact p.elim
  · rw [if_neg cc] at p; exact p.elim
/-- is, of truths -/
def isBD (n : Bool) (x y : D) : Option D := match x, y with
  | .bl a, .bl b => some (.bl (n != decide (a = b)))
  | _, _ => none
theorem od_isB : OpD G X (compareOp .Is) (isBD false) := by
  refine ⟨_, op_isBl, fun F σ H Hf ρ v w x y d Q R rx ry e q => ?_⟩
  cases x <;> cases y <;> simp only [isBD] at e <;> cases e
  obtain rfl := rx.b
  obtain rfl := ry.b
  exact ⟨_, _, rfl, rfl, by simpa using q _ H Hf R (Same.refl _) (.bl _)⟩
theorem od_notB : OpD G X (compareOp .IsNot) (isBD true) := by
  refine ⟨_, op_notBl, fun F σ H Hf ρ v w x y d Q R rx ry e q => ?_⟩
  cases x <;> cases y <;> simp only [isBD] at e <;> cases e
  obtain rfl := rx.b
  obtain rfl := ry.b
  exact ⟨_, _, rfl, rfl, by simpa using q _ H Hf R (Same.refl _) (.bl _)⟩
end
end Spk

namespace Spk
open PySem PySem.Spec PyProof.Rows L2
/-- what the top must have left of an own error class over a built-in one -/
structure ErrG (K : PySem.W.Frag) (C : Addr) (f : Str) : Prop where
  cls : ∃ B ni ii bm, ExcBaseFacts B ni ii bm ∧ (∀ z, refuseLoop z "__setattr__" bm = pure ()) ∧ bm.contains (.type "object") = true ∧
    ∃ nm q N bs sn sub ab col dd k0 k1 k2 k3 k5, K.lookup C = some (excClassObj nm q C N bs bm true sn sub ab col dd k0 k1 k2 k3 k5 ni)
  sa : PySem.W.findIn K (.ref C) "__setattr__" = some (some (.builtin "object.__setattr__"))
  ga : PySem.W.findIn K (.ref C) "__getattribute__" = some (some (.builtin "BaseException.__getattribute__"))
  gg : PySem.W.findIn K (.ref C) "__getattr__" = some none
  nf : PySem.W.findIn K (.ref C) f = some none
  kC : PySem.W.keepIn K (.ref C) = true
  eC : PySem.W.subIn K (.ref C) (.type "BaseException") = some true
  tC : PySem.W.typeIn K (.ref C) = some (.type "type")
  hC : PySem.W.hasDictIn K C = true
  iC : PySem.W.isClsIn K C = true
  sC : PySem.W.subIn K (.ref C) (.ref C) = some true
theorem ErrG.xf {K : PySem.W.Frag} {C : Addr} {f : Str} (h : ErrG K C f) : XfC K C := ⟨h.ga, h.gg, h.eC, h.hC⟩
theorem ErrG.oex {K : PySem.W.Frag} {C : Addr} {f : Str} (h : ErrG K C f) : OexB K C := ⟨h.cls, h.sa, h.eC, h.tC, h.kC⟩
theorem ErrG.exm {K : PySem.W.Frag} {C : Addr} {f : Str} {t : Value} {b : Bool} (h : ErrG K C f) (s : PySem.W.subIn K t (.ref C) = some b) : PySem.W.exmOne K t (.ref C) = some b := exm_mk h.eC h.iC h.tC s
theorem ErrG.excC {K : PySem.W.Frag} {C : Addr} {f : Str} (h : ErrG K C f) (ha : PySem.W.findIn K (.ref C) "__class__" = some (some (.builtin "object.__class__"))) (hn : PySem.W.specialIn K (.builtin "object.__class__") "__get__" = some (some (.builtin "getset_descriptor.__get__")))
    (ht : PySem.W.takesIn K (.builtin "object.__class__") = some true) (hm : PySem.W.mroIn K C (.type "object") = some true) : ExcC K C := ⟨h.ga, h.gg, h.eC, h.hC, ha, hn, ht, hm⟩
theorem ErrG.errB {K : PySem.W.Frag} {P : Program} {w : World} {mg : Str → Option Value} {bh : Heap} {x f qu : Str} {C fI : Addr} {fd : FuncData} {st : Stmt} {q1 q2 q3 q4 : Pos} (h : ErrG K C f) (gC : mg x = some (.ref C))
    (iC : PySem.W.findIn K (.ref C) "__init__" = some (some (.ref fI))) (tI : PySem.W.typeIn K (.ref fI) = some (.type "function")) (F : Fun K "__init__" qu st fI fd) (bd : Binds K fd ["self", f] [])
    (S : FnScope ["self", f] ["self", f] (defScope st)) (hb : defBody st = [.Assign [.Attribute (.Name "self" q1) f q2] (.Name f q3) q4]) (hf1 : (f == ("__debug__" : Str)) = false) (hf2 : (f == ("__classdict__" : Str)) = false)
    (v0 : (defScope st).names.lookup ("self" : Str) = some .local) (v1 : (defScope st).names.lookup f = some .local) : ErrB P w K mg bh x f C fI fd :=
  ⟨h.oex, h.xf, h.nf, iC, tI, gC, ok_initB F S h.oex h.nf hb hf1 hf2 v0 v1, bd⟩
/-! ### raise -/
section
variable {G : Gx} {X : Cx} {W : WX} {e : Expr} {pos p pos2 : Pos} {x f : Str} {fI : Addr} {fd : FuncData} {fe : EX} {c : Str} {k : Nat}
def sRaiseB (C f : Str) (fe : EX) : SX := fun ρ => Sr.of (fe ρ) fun d ρ1 => .exc C f d ρ1
theorem ds_raiseB (hc : X.calm = true) (T : ErrB X.prog X.w X.K X.mg X.base x f (G.cm c) fI fd) (rm : Room k X.A) (hk : 2 ≤ k) (tk : Takes X W) (hg : Gl X x) (he : DE G X W e fe) (hdb : (x == ("__debug__" : Str)) = false := by decide)
    (hs : starEach [e] X.env = (false, eval e X.env) :: starEach [] X.env := by rfl) (hpl : (backTo pos (starEach [] X.env)).any (·.1) = false := by rfl) :
    DS G X W (.Raise (some (.Call (.Name x p) [e] [] pos)) none pos2) (sRaiseB c f fe) := by
  obtain ⟨t, p1, q1⟩ := DE.elim he
  refine ⟨_, ps_raiseB hc T rm hk tk hg p1 hdb hs hpl, fun F σ H Hf ρ En R p => ?_⟩
  refine q1 F σ H Hf ρ _ R ((PostS.of p).imp fun d H1 Hf1 ρ1 _ R1 s1 p v r => ?_)
  have z := errK (C := G.cm c) (f := f) (v := v) (H1 := H1) (Q := fun cls d H' => W cls d σ H') fun dd nd => p v dd σ _ _ (R1.new nd (.xd [(f, v)])) (Same.new (R1.nf nd)) (r.mono (Same.new (R1.nf nd))) upd_same
  exact z
end
/-! ### another exception at hand -/
section
variable {K : PySem.W.Frag} {cm : Str → Addr} {e e' : Option (Addr × Value × Option Addr)} {H Hf : Hp} {F : Fr} {σ : L2.St} {ρ : PEnv}
mutual
theorem Rp.wx : ∀ (d : D) {v : V}, Rp ⟨K, cm, e⟩ H v d → Rp ⟨K, cm, e'⟩ H v d
  | .non, _, h => by cases h; exact .non
  | .bl b, _, h => by cases h; exact .bl b
  | .int i, _, h => by cases h; exact .int i
  | .str x, _, h => by cases h with | str h => exact .str h
  | .lst ds, _, h => by cases h with | lst q r => exact .lst q (RpL.wx ds r)
  | .scr ns, _, h => by cases h with | scr q => exact .scr q
  | .tup ds, _, h => by cases h with | tup q r => exact .tup q (RpL.wx ds r)
  | .ins C ks ds, _, h => by cases h with | ins q l r => exact .ins q l (RpL.wx ds r)
theorem RpL.wx : ∀ (ds : List D) {vs : List V}, RpL ⟨K, cm, e⟩ H vs ds → RpL ⟨K, cm, e'⟩ H vs ds
  | [], _, h => by cases h; exact .nil
  | d :: ds, _, h => by cases h with | cons a b => exact .cons (Rp.wx d a) (RpL.wx ds b)
end
theorem MuOk.wx {o : HO} {m : Mu} (h : MuOk ⟨K, cm, e⟩ H o m) : MuOk ⟨K, cm, e'⟩ H o m := by
  cases m with
  | lst ds =>
    cases o <;> try exact h
    exact RpL.wx ds h
  | obj C ks ds =>
    cases o <;> try exact h
    obtain ⟨e1, vs, e2, l, r⟩ := h
    exact ⟨e1, vs, e2, l, RpL.wx ds r⟩
theorem MutOk.wx {i : Nat} {m : Mu} {p : Addr} (h : MutOk ⟨K, cm, e⟩ F σ H Hf i m p) : MutOk ⟨K, cm, e'⟩ F σ H Hf i m p := by
  obtain ⟨o, h1, h2⟩ := h.ls
  exact ⟨h.at_, h.nf, h.np, o, h1, h2.wx⟩
def Cell.noX : Cell → Bool
  | .exn _ _ _ => false
  | _ => true
def noExn (ρ : PEnv) : Bool := ρ.all Cell.noX
theorem Rep.wx (R : Rep ⟨K, cm, e⟩ F σ H Hf ρ) (hn : noExn ρ = true) : Rep ⟨K, cm, e'⟩ F σ H Hf ρ := by
  refine ⟨R.len, R.sub, fun i c ec => ?_, R.apart, R.prot⟩
  have k := R.cell i c ec
  have n : c.noX = true := List.all_eq_true.mp hn c (List.mem_of_getElem? ec)
  cases c with
  | no => trivial
  | val d => obtain ⟨v, h, r⟩ := k; exact ⟨v, h, r.wx⟩
  | own ds => obtain ⟨p, m⟩ := k; exact ⟨p, m.wx⟩
  | bor ds => exact MutOk.wx k
  | exn C f d => cases n
/-- a slot gets the exception -/
theorem Rep.catch {a : Addr} {C f : Str} {d : D} {dd : Addr} {v : V} (R : Rep ⟨K, cm, none⟩ F σ H Hf ρ) (hn : noExn ρ = true) (i : Nat) (r : Rp ⟨K, cm, none⟩ Hf v d) (hd : Hf dd = some (.xd [(f, v)])) :
    Rep ⟨K, cm, some (a, .ref (cm C), some dd)⟩ F (σ.set i (some (.ref a))) H Hf (ρ.set i (.exn C f d)) := by
  have R2 : Rep ⟨K, cm, some (a, .ref (cm C), some dd)⟩ F (σ.set i (some (.ref a))) H Hf (ρ.set i .no) := (R.wx hn).drop i (some (.ref a))
  refine ⟨by rw [List.length_set, List.length_set]; exact R.len, R.sub, fun j c ej => ?_, fun j k cj ck ds es p ej ek mj mk sj sk => ?_, R.prot⟩
  · rcases set_at ej with ⟨rfl, rfl, hl⟩ | ⟨ne, ej⟩
    · exact ⟨a, dd, v, rfl, by rw [List.getElem?_set_self (by rw [R.len]; exact hl)], hd, r.wx⟩
    · exact R2.cell j c (by rw [List.getElem?_set_ne ne]; exact ej)
  · rcases set_at ej with ⟨rfl, rfl, _⟩ | ⟨n1, ej⟩
    · cases mj
    rcases set_at ek with ⟨rfl, rfl, _⟩ | ⟨n2, ek⟩
    · cases mk
    exact R2.apart j k cj ck ds es p (by rw [List.getElem?_set_ne n1]; exact ej) (by rw [List.getElem?_set_ne n2]; exact ek) mj mk sj sk
end
/-! ### try: .. except X as n: .. -/
structure CL where
  tb : List (Str × Bool)
  i : Nat
  f : SX
def dropX (i : Nat) (ρ : PEnv) (k : PEnv → Sr) : Sr := if noExn (ρ.set i .no) = true then k (ρ.set i .no) else .bad
def Sr.out (i : Nat) : Sr → Sr
  | .nx ρ => dropX i ρ .nx
  | .rt d ρ => dropX i ρ (.rt d)
  | .rf ds ρ => dropX i ρ (.rf ds)
  | .bk ρ => dropX i ρ .bk
  | .ct ρ => dropX i ρ .ct
  | _ => .bad
def exS : List CL → Str → Str → D → PEnv → Sr
  | [], C, g, d, ρ => .exc C g d ρ
  | k :: r, C, g, d, ρ => match k.tb.lookup C with
    | some true => if noExn ρ = true then (k.f (ρ.set k.i (.exn C g d))).out k.i else .bad
    | some false => exS r C g d ρ
    | none => .bad
def trS (cs : List CL) : Sr → Sr
  | .exc C g d ρ => exS cs C g d ρ
  | r => r
def sTry (f : SX) (cs : List CL) : SX := fun ρ => trS cs (f ρ)
def tDSs (G : Gx) (W : WX) (f : SX) : TS := fun En σ H => ∃ (F : Fr) (Hf : Hp) (ρ : PEnv), Rep G F σ H Hf ρ ∧ PostS G F W Hf En (f ρ)
theorem DSs.pss {G : Gx} {X : Cx} {W : WX} {sts : List Stmt} {f : SX} (h : DSs G X W sts f) : PSs X sts (tDSs G W f) := by
  obtain ⟨t, p, q⟩ := h
  exact ⟨fun pins s σ H En I ⟨F, Hf, ρ, R, z⟩ => p.run pins s σ H En I (q F σ H Hf ρ En R z)⟩
section
variable {K : PySem.W.Frag} {cm : Str → Addr} {X : Cx} {W : WX} {bd : List Stmt} {h0 : ExceptHandler} {hds : List ExceptHandler} {pos : Pos} {f1 : SX}
inductive DCl (K : PySem.W.Frag) (cm : Str → Addr) (X : Cx) : List ExceptHandler → List (CL × Value) → Prop
  | nil : DCl K cm X [] []
  | cons {x n : Str} {k : CL} {c : Value} {s0 : Stmt} {su : List Stmt} {np hp : Pos} {hds : List ExceptHandler} {l : List (CL × Value)} (hi : X.N[k.i]? = some n) (hln : X.env.kindOf n = some .local) (hc : Names X x c)
      (hx : ∀ C b, k.tb.lookup C = some b → PySem.W.exmOne K (.ref (cm C)) c = some b)
      (hs : ∀ (a : Addr) (oe : Obj) (cls : Value) (d : Option Addr) (pn : List (Addr × Obj)), Zc cls d oe → (∃ vs, oe.data = .fields vs) → DSs ⟨K, cm, some (a, cls, d)⟩ (X.suite a ((a, oe) :: pn)) W0 (s0 :: su) k.f)
      (r : DCl K cm X hds l) : DCl K cm X (.ExceptHandler (some (.Name x np)) (some n) (s0 :: su) hp :: hds) ((k, c) :: l)
def clOf (K : PySem.W.Frag) (cm : Str → Addr) (l : List (CL × Value)) : List Cl := l.map fun q => ⟨q.2, q.1.i, fun a cls d => tDSs ⟨K, cm, some (a, cls, d)⟩ W0 q.1.f⟩
theorem DCl.ok {l : List (CL × Value)} (h : DCl K cm X hds l) : ClOk X hds (clOf K cm l) := by
  induction h with
  | nil => exact .nil
  | cons hi hln hc hx hs r ih => exact ClOk.cons hi hln hc (fun a oe cls d pn hz hf => (hs a oe cls d pn hz hf).pss) ih
theorem out_ok {F : Fr} {Hf : Hp} {En : L2.Ends} {i : Nat} {a : Addr} {cls : Value} {d : Option Addr} {r : Sr} (p : PostS ⟨K, cm, none⟩ F W Hf En (r.out i)) :
    PostS ⟨K, cm, some (a, cls, d)⟩ F W0 Hf { nx := fun τ J => En.nx (τ.set i none) J, rt := En.rt, bk := fun τ J => En.bk (τ.set i none) J, ct := fun τ J => En.ct (τ.set i none) J } r := by
  have go : ∀ {σ' : L2.St} {H' Hf' : Hp} {ρ' : PEnv} {k : PEnv → Sr}, Rep ⟨K, cm, some (a, cls, d)⟩ F σ' H' Hf' ρ' → PostS ⟨K, cm, none⟩ F W Hf En (dropX i ρ' k) → Rep ⟨K, cm, none⟩ F (σ'.set i none) H' Hf' (ρ'.set i .no) ∧ PostS ⟨K, cm, none⟩ F W Hf En (k (ρ'.set i .no)) := fun R p => by
    unfold dropX at p
    split at p
    · rename_i hn
      exact ⟨(R.drop i none).wx hn, p⟩
    · exact p.elim
  cases r with
  | nx ρ => exact fun σ' H' Hf' R s => (go R p).2 _ _ _ (go R p).1 s
  | rt x ρ => exact fun v σ' H' Hf' R s rv => (go R p).2 v _ _ _ (go R p).1 s rv.wx
  | rf x ρ => exact fun q vs σ' H' Hf' R s nq rv => (go R p).2 q vs _ _ _ (go R p).1 s nq rv.wx
  | bk ρ => exact fun σ' H' Hf' R s => (go R p).2 _ _ _ (go R p).1 s
  | ct ρ => exact fun σ' H' Hf' R s => (go R p).2 _ _ _ (go R p).1 s
  | exc C f x ρ => exact p.elim
  | bad => exact p.elim
theorem exS_ok {l : List (CL × Value)} (h : DCl K cm X hds l) {F : Fr} {Hf : Hp} {En : L2.Ends} {C g : Str} {d : D} {ρ : PEnv} (p : PostS ⟨K, cm, none⟩ F W Hf En (exS (l.map (·.1)) C g d ρ))
    {v : V} {dd : Addr} {σ : L2.St} {H : Hp} {Hf' : Hp} (R : Rep ⟨K, cm, none⟩ F σ H Hf' ρ) (s : Same Hf Hf') (r : Rp ⟨K, cm, none⟩ Hf' v d) (hd : Hf' dd = some (.xd [(g, v)])) : wCl K W En (clOf K cm l) (.ref (cm C)) (some dd) σ H := by
  induction h with
  | nil => exact p v dd σ H Hf' R s r hd
  | @cons x n k c s0 su np hp hds l hi hln hc hx hs rr ih =>
    change PostS ⟨K, cm, none⟩ F W Hf En (match k.tb.lookup C with
      | some true => if noExn ρ = true then (k.f (ρ.set k.i (.exn C g d))).out k.i else .bad
      | some false => exS (l.map (·.1)) C g d ρ
      | none => .bad) at p
    cases hl : k.tb.lookup C with
    | none => rw [hl] at p; exact p.elim
    | some b =>
      rw [hl] at p
      refine ⟨b, hx C b hl, fun hb a na => ?_, fun hb => ?_⟩
      · subst hb
        change PostS ⟨K, cm, none⟩ F W Hf En (if noExn ρ = true then (k.f (ρ.set k.i (.exn C g d))).out k.i else .bad) at p
        by_cases hn : noExn ρ = true
        · rw [if_pos hn] at p
          exact ⟨F, Hf', _, R.catch hn k.i r hd, out_ok (p.mono s)⟩
        · rw [if_neg hn] at p; exact p.elim
      · subst hb
        exact ih p
theorem ds_try {l : List (CL × Value)} (hb : ∀ (W' : WX) (pn : List (Addr × Obj)) (xe : Value → Shared → Prop), Takes (X.tr pn xe) W' → PassesOwn (model X.prog X.w) X.A X.env xe → DSs ⟨K, cm, none⟩ (X.tr pn xe) W' bd f1)
    (hc : DCl K cm X (h0 :: hds) l) (nd : X.N.Nodup) (tk : Takes X W) (hK : X.K = K := by rfl) (hst : X.stack = X.env :: X.outer := by rfl) (hfl : X.env.frame = some X.env.locals := by rfl) : DS ⟨K, cm, none⟩ X W (.Try bd (h0 :: hds) [] [] pos) (sTry f1 (l.map (·.1))) := by
  refine ⟨_, ps_tryN (W0 := W) (tb := fun W' => tDSs ⟨K, cm, none⟩ W' f1) (l := clOf K cm l) hst hfl nd tk (fun W' pn xe t po => (hb W' pn xe t po).pss) hc.ok, fun F σ H Hf ρ En R p => ⟨F, Hf, ρ, R, ?_⟩⟩
  rw [hK]
  change PostS ⟨K, cm, none⟩ F W Hf En (trS (l.map (·.1)) (f1 ρ)) at p
  cases hf : f1 ρ with
  | exc C g d ρ' =>
    rw [hf] at p
    exact fun v dd σ' H' Hf' R' s r hd => exS_ok hc p R' s r hd
  | nx ρ' => rw [hf] at p; exact p
  | rt d ρ' => rw [hf] at p; exact p
  | rf d ρ' => rw [hf] at p; exact p
  | bk ρ' => rw [hf] at p; exact p
  | ct ρ' => rw [hf] at p; exact p
  | bad => rw [hf] at p; exact p
/-- e.f -/
def eXf (i : Nat) (C g : Str) : EX := fun ρ => match ρ[i]? with
  | some (.exn C' f d) => if C' = C ∧ f = g then .ok d ρ else .bad
  | _ => .bad
theorem de_xf {a : Addr} {oe : Obj} {cls : Value} {d : Option Addr} {pn : List (Addr × Obj)} {i : Nat} {x C g : Str} {p : Pos} (hz : Zc cls d oe) (hf : ∃ vs, oe.data = .fields vs) (T : XfC X.K (cm C)) (hno : PySem.W.findIn X.K (.ref (cm C)) g = some none)
    (hN : X.N[i]? = some x := by rfl) (hv : Vis X.env.scope x := by first | exact .inl rfl | exact .inr (.inl rfl) | exact .inr (.inr rfl)) (hd : (x == ("__debug__" : Str)) = false := by decide) (hcd : (x == ("__classdict__" : Str)) = false := by decide)
    (hb : attributeBase (.Name x p) g (X.suite a ((a, oe) :: pn)).env (eval (.Name x p) (X.suite a ((a, oe) :: pn)).env) = eval (.Name x p) (X.suite a ((a, oe) :: pn)).env := by rfl) : DE ⟨K, cm, some (a, cls, d)⟩ (X.suite a ((a, oe) :: pn)) W (.Attribute (.Name x p) g pos) (eXf i C g) := by
  refine DE.intro ⟨_, pe_xf T hno hz hf (pe_var (X := X.suite a ((a, oe) :: pn)) (i := i) hN hv hd hcd) hb, fun F σ H Hf ρ Q R p => ?_⟩
  unfold eXf at p
  split at p
  · rename_i C' f d' hcell
    by_cases c : C' = C ∧ f = g
    · rw [if_pos c] at p
      obtain ⟨rfl, rfl⟩ := c
      obtain ⟨a', dd, v, e0, e1, e2, r⟩ := R.cell i _ hcell
      have e0 : some (a, cls, d) = some (a', Value.ref (cm C'), some dd) := e0
      simp only [Option.some.injEq, Prod.mk.injEq] at e0
      obtain ⟨rfl, h2, h3⟩ := e0
      exact ⟨.ref a, e1, rfl, h2, dd, _, v, h3, R.sub _ _ e2, by simp [List.lookup], p H Hf R (Same.refl _) v r⟩
    · rw [if_neg c] at p; exact p.elim
  · exact p.elim
/-- isinstance(e, T) -/
def eXis (i : Nat) (tb : List (Str × Bool)) : EX := fun ρ => match ρ[i]? with
  | some (.exn C _ _) => Rs.lift ((tb.lookup C).map .bl) ρ
  | _ => .bad
def XisF (K : PySem.W.Frag) (cm : Str → Addr) (cv : Value) (tb : List (Str × Bool)) : Prop := ∀ C b, tb.lookup C = some b → ExcC K (cm C) ∧ PySem.W.kitOne K (.ref (cm C)) cv = some b
theorem de_xis {a : Addr} {oe : Obj} {cls : Value} {d : Option Addr} {pn : List (Addr × Obj)} {i : Nat} {x : Str} {p px : Pos} {b : Expr} {c : V} {cv : Value} {tb : List (Str × Bool)} (hz : Zc cls d oe) (hf : ∃ vs, oe.data = .fields vs) (kf : XisF X.K cm cv tb) (hcls : ClsV c cv) (ht : PE (X.suite a ((a, oe) :: pn)) b (tC c)) (hg : Gl (X.suite a ((a, oe) :: pn)) "isinstance") (hm : X.mg "isinstance" = none)
    (hN : X.N[i]? = some x := by rfl) (hv : Vis X.env.scope x := by first | exact .inl rfl | exact .inr (.inl rfl) | exact .inr (.inr rfl)) (hd : (x == ("__debug__" : Str)) = false := by decide) (hcd : (x == ("__classdict__" : Str)) = false := by decide)
    (he0 : starEach [b] (X.suite a ((a, oe) :: pn)).env = (false, eval b (X.suite a ((a, oe) :: pn)).env) :: starEach [] (X.suite a ((a, oe) :: pn)).env := by rfl) (he : starEach [.Name x px, b] (X.suite a ((a, oe) :: pn)).env = (false, eval (.Name x px) (X.suite a ((a, oe) :: pn)).env) :: starEach [b] (X.suite a ((a, oe) :: pn)).env := by rfl)
    (hpl : (backTo pos (starEach [b] (X.suite a ((a, oe) :: pn)).env)).any (·.1) = false := by rfl) : DE ⟨K, cm, some (a, cls, d)⟩ (X.suite a ((a, oe) :: pn)) W (.Call (.Name "isinstance" p) [.Name x px, b] [] pos) (eXis i tb) := by
  refine DE.intro ⟨_, pe_callB (call_isD hz hf) hg hm (by decide +kernel) (pa_cons (pe_var (X := X.suite a ((a, oe) :: pn)) (i := i) hN hv hd hcd) (pa_cons ht pa_nil he0) he) (by decide) (by decide) he hpl, fun F σ H Hf ρ Q R p => ?_⟩
  unfold eXis at p
  split at p
  · rename_i C' f d' hcell
    obtain ⟨u, hu, q⟩ := lift_post (H := H) p
    obtain ⟨bb, h1, rfl⟩ := Option.map_eq_some_iff.mp hu
    obtain ⟨a', dd, v, e0, e1, e2, r⟩ := R.cell i _ hcell
    have e0 : some (a, cls, d) = some (a', Value.ref (cm C'), some dd) := e0
    simp only [Option.some.injEq, Prod.mk.injEq] at e0
    obtain ⟨rfl, h2, h3⟩ := e0
    exact ⟨.ref a, e1, cm C', dd, _, c, cv, bb, h2, h3, R.sub _ _ e2, rfl, hcls, (kf C' bb h1).1, (kf C' bb h1).2, q H Hf R (Same.refl _) _ (.bl _)⟩
  · exact p.elim
end
end Spk

namespace SpkX
open PySem PySem.W PySem.Calls PyProof.Rows
/-! ### signs between instances of two classes -/
section
variable {prog : Program} {w : World} {M : Model} {A : Around} {E : Value → Shared → Prop} {K : W.Frag} {C D : Addr} {cc cd : ClassData} {nm : String}
/-- whether an own class without own bases has the sign -/
theorem fills_own {h : Heap} {a b : Option Value} (KI : K.In h) (hc : W.clsIn K C = some cc) (hm : cc.mro = [.ref C, .type "object"]) (h1 : W.findIn K (.ref C) (PySem.dunder nm) = some a) (h2 : W.findIn K (.ref C) (dunderR nm) = some b)
    (ha : a = none ∨ ∃ f : Addr, a = some (.ref f)) (hb : b = none ∨ ∃ f : Addr, b = some (.ref f)) (o1 : W.findIn K (.type "object") (PySem.dunder nm) = some none) (o2 : W.findIn K (.type "object") (dunderR nm) = some none) :
    W.Looks M h (fillsNumberSlot (.ref C) nm) (a.isSome || b.isSome) := by
  intro A Q E s k q
  have lm : W.Looks M h (mroOf (.ref C)) cc.mro := (W.looks_clsIn KI hc).andThen (f := fun cd => pure cd.mro) .now
  have lm := lm.keeps k
  obtain ⟨hh, g, d, tt, os⟩ := s
  have K2 : K.In hh := KI.keeps k
  have l1 : W.Looks M hh (typeLookup (.ref C) (PySem.dunder nm)) a := W.looks_findIn K2 h1
  have l2 : W.Looks M hh (typeLookup (.ref C) (dunderR nm)) b := W.looks_findIn K2 h2
  have l3 : W.Looks M hh (typeLookup (.type "object") (PySem.dunder nm)) none := W.looks_findIn K2 o1
  have l4 : W.Looks M hh (typeLookup (.type "object") (dunderR nm)) none := W.looks_findIn K2 o2
  unfold fillsNumberSlot
  refine wpAny_bind (lm.at ?_)
  rw [hm, List.anyM_cons]
  refine wpAny_bind ?_
  rcases ha with rfl | ⟨f, rfl⟩
  · rcases hb with rfl | ⟨g2, rfl⟩
    · repeat lk
      exact q
    · repeat lk
      exact q
  · repeat lk
    exact q
theorem inPy_own {h : Heap} {a b : Option Value} (KI : K.In h) (h1 : W.findIn K (.ref C) (PySem.dunder nm) = some a) (h2 : W.findIn K (.ref C) (dunderR nm) = some b) (ha : a = none ∨ ∃ f : Addr, a = some (.ref f)) (hb : b = none ∨ ∃ f : Addr, b = some (.ref f)) (some_ : (a.isSome || b.isSome) = true) :
    W.Looks M h (numberSlotInPython (.ref C) nm) true := by
  intro A Q E s k q
  obtain ⟨hh, g, d, tt, os⟩ := s
  have K2 : K.In hh := KI.keeps k
  have l1 : W.Looks M hh (typeLookup (.ref C) (PySem.dunder nm)) a := W.looks_findIn K2 h1
  have l2 : W.Looks M hh (typeLookup (.ref C) (dunderR nm)) b := W.looks_findIn K2 h2
  unfold numberSlotInPython
  rcases ha with rfl | ⟨f, rfl⟩
  · rcases hb with rfl | ⟨g2, rfl⟩
    · cases some_
    · repeat lk
      exact q
  · rcases hb with rfl | ⟨g2, rfl⟩ <;> (repeat lk) <;> exact q
/-- x op y by x's own method, y of another own class -/
theorem bin_left {s : Shared} {x y f : Addr} {ox oy : Obj} {dx dy : Option Obj} {op : Operator} {rc a2 b2 : Option Value} {Q : Value → Shared → Prop} (KI : K.In s.heap) (I : W.InstAt s.heap x ox C dx) (J : W.InstAt s.heap y oy D dy) (hcd : (Value.ref C == Value.ref D) = false) (hc : W.clsIn K C = some cc) (hm : cc.mro = [.ref C, .type "object"]) (hd : W.clsIn K D = some cd) (hmd : cd.mro = [.ref D, .type "object"])
    (h1 : W.findIn K (.ref C) (PySem.dunder op.info.2) = some (some (.ref f))) (h2 : W.findIn K (.ref C) (dunderR op.info.2) = some rc) (hp : rc = none ∨ ∃ g : Addr, rc = some (.ref g)) (hf : W.isFn K (.ref f) = true)
    (d1 : W.findIn K (.ref D) (PySem.dunder op.info.2) = some a2) (d2 : W.findIn K (.ref D) (dunderR op.info.2) = some b2) (ha : a2 = none ∨ ∃ g : Addr, a2 = some (.ref g)) (hb : b2 = none ∨ ∃ g : Addr, b2 = some (.ref g)) (hs : W.subIn K (.ref D) (.ref C) = some false)
    (o1 : W.findIn K (.type "object") (PySem.dunder op.info.2) = some none) (o2 : W.findIn K (.type "object") (dunderR op.info.2) = some none)
    (go : wpAny (model prog w) A (call (.ref f) [.ref x, .ref y]) (W.CmpBack Q) E s) : wpAny (model prog w) A (binaryOp op (.ref x) (.ref y)) Q E s := by
  have one := W.ksp_try KI I h1 hf go
  obtain ⟨hh, g, d, t, os⟩ := s
  rcases hi : op.info with ⟨sym, nm'⟩
  rw [hi] at h1 h2 d1 d2 o1 o2 one
  dsimp only at h1 h2 d1 d2 o1 o2 one
  have L1 : W.Looks (model prog w) hh (typeOf (.ref x)) (.ref C) := I.type
  have L2 : W.Looks (model prog w) hh (typeOf (.ref y)) (.ref D) := J.type
  have L3 : W.Looks (model prog w) hh (fillsNumberSlot (.ref C) nm') true := fills_own (b := rc) KI hc hm h1 h2 (.inr ⟨_, rfl⟩) hp o1 o2
  have L4 : W.Looks (model prog w) hh (fillsNumberSlot (.ref D) nm') (a2.isSome || b2.isSome) := fills_own KI hd hmd d1 d2 ha hb o1 o2
  have L5 : W.Looks (model prog w) hh (isSubtype (.ref D) (.ref C)) false := W.looks_subIn KI hs
  have L6 : W.Looks (model prog w) hh (numberSlotInPython (.ref C) nm') true := inPy_own (b := rc) KI h1 h2 (.inr ⟨_, rfl⟩) hp rfl
  simp only [binaryOp, hi]
  refine wpAny_holding (wpAny_bind ?_)
  unfold binaryOp1
  refine wpAny_bind (L1.at (wpAny_bind (L2.at (wpAny_bind (L3.at ?_)))))
  simp only [hcd, Bool.false_eq_true, if_false]
  cases r : (a2.isSome || b2.isSome) with
  | false =>
    rw [r] at L4
    repeat ((fail_if_success (with_reducible show wpAny _ _ (tryMethod _ _ _) _ _ _)); lk)
    refine wpAny_mono one (fun r s' hr' => ?_) fun _ _ e => e
    obtain ⟨v, rfl, hq⟩ := hr'
    repeat ((fail_if_success (with_reducible show wpAny _ _ (tryMethod _ _ _) _ _ _)); lk)
    exact hq
  | true =>
    have L7 : W.Looks (model prog w) hh (numberSlotInPython (.ref D) nm') true := inPy_own KI d1 d2 ha hb r
    rw [r] at L4
    repeat ((fail_if_success (with_reducible show wpAny _ _ (tryMethod _ _ _) _ _ _)); lk)
    refine wpAny_mono one (fun r s' hr' => ?_) fun _ _ e => e
    obtain ⟨v, rfl, hq⟩ := hr'
    repeat ((fail_if_success (with_reducible show wpAny _ _ (tryMethod _ _ _) _ _ _)); lk)
    exact hq
/-- x op y by y's own method, x's class has no such sign -/
theorem bin_right {s : Shared} {x y f : Addr} {ox oy : Obj} {dx dy : Option Obj} {op : Operator} {rc : Option Value} {Q : Value → Shared → Prop} (KI : K.In s.heap) (I : W.InstAt s.heap x ox C dx) (J : W.InstAt s.heap y oy D dy) (hcd : (Value.ref C == Value.ref D) = false) (hc : W.clsIn K C = some cc) (hm : cc.mro = [.ref C, .type "object"]) (hd : W.clsIn K D = some cd) (hmd : cd.mro = [.ref D, .type "object"])
    (h1 : W.findIn K (.ref D) (dunderR op.info.2) = some (some (.ref f))) (h2 : W.findIn K (.ref D) (PySem.dunder op.info.2) = some rc) (hp : rc = none ∨ ∃ g : Addr, rc = some (.ref g)) (hf : W.isFn K (.ref f) = true)
    (c1 : W.findIn K (.ref C) (PySem.dunder op.info.2) = some none) (c2 : W.findIn K (.ref C) (dunderR op.info.2) = some none)
    (o1 : W.findIn K (.type "object") (PySem.dunder op.info.2) = some none) (o2 : W.findIn K (.type "object") (dunderR op.info.2) = some none)
    (go : wpAny (model prog w) A (call (.ref f) [.ref y, .ref x]) (W.CmpBack Q) E s) : wpAny (model prog w) A (binaryOp op (.ref x) (.ref y)) Q E s := by
  have one := W.ksp_try KI J h1 hf go
  obtain ⟨hh, g, d, t, os⟩ := s
  rcases hi : op.info with ⟨sym, nm'⟩
  rw [hi] at h1 h2 c1 c2 o1 o2 one
  dsimp only at h1 h2 c1 c2 o1 o2 one
  have L1 : W.Looks (model prog w) hh (typeOf (.ref x)) (.ref C) := I.type
  have L2 : W.Looks (model prog w) hh (typeOf (.ref y)) (.ref D) := J.type
  have L3 : W.Looks (model prog w) hh (fillsNumberSlot (.ref C) nm') false := fills_own (a := none) (b := none) KI hc hm c1 c2 (.inl rfl) (.inl rfl) o1 o2
  have L4 : W.Looks (model prog w) hh (fillsNumberSlot (.ref D) nm') true := by
    have z := fills_own (M := model prog w) KI hd hmd h2 h1 hp (.inr ⟨_, rfl⟩) o1 o2
    simpa using z
  simp only [binaryOp, hi]
  refine wpAny_holding (wpAny_bind ?_)
  unfold binaryOp1
  refine wpAny_bind (L1.at (wpAny_bind (L2.at (wpAny_bind (L3.at ?_)))))
  simp only [hcd, Bool.false_eq_true, if_false]
  repeat ((fail_if_success (with_reducible show wpAny _ _ (tryMethod _ _ _) _ _ _)); lk)
  refine wpAny_mono one (fun r s' hr' => ?_) fun _ _ e => e
  obtain ⟨v, rfl, hq⟩ := hr'
  repeat ((fail_if_success (with_reducible show wpAny _ _ (tryMethod _ _ _) _ _ _)); lk)
  exact hq
/-- x != y by x's own == -/
theorem ne_own {s : Shared} {x f : Addr} {ox : Obj} {dx : Option Obj} {b tb : Value} {Q : Value → Shared → Prop} (hu : A.units + 1 < cLine) (KI : K.In s.heap) (I : W.InstAt s.heap x ox C dx) (hb : W.Looks (model prog w) s.heap (typeOf b) tb) (hn : W.notFirst K C tb = true)
    (he : W.findIn K (.ref C) "__eq__" = some (some (.ref f))) (hf : W.isFn K (.ref f) = true) (h0 : W.findIn K (.ref C) "__ne__" = some (some (.builtin "object.__ne__"))) (hob : W.mroIn K C (.type "object") = some true)
    (go : wpAny (model prog w) A.in1 (call (.ref f) [.ref x, b]) (fun v s' => ∃ c, v = .bool c ∧ Q (.bool (!c)) s') E s) : wpAny (model prog w) A (richCompare .NotEq (.ref x) b) Q E s := by
  have one : wpAny (model prog w) A (tryCompare (.ref x) "__ne__" b) (fun r s' => ∃ v, r = some v ∧ Q v s') E s := by
    have S := PySem.F.cmp_object.ne
    have body : wpAny (model prog w) A (call (.builtin "object.__ne__") [.ref x, b]) (fun v s' => v ≠ .notImplemented ∧ Q v s') E s := by
      refine wpAny_call (codeAny_call_builtin S.plain PySem.F.cmpEntry_ne ?_)
      have sb : W.Looks (model prog w) s.heap (isInstance (.ref x) (.type "object")) true := I.type.andThen (W.looks_mroIn KI hob)
      refine @W.check_slot (model prog w) _ _ s "object.__ne__" "object" "__ne__" (.ref x) [b] [] _ PySem.F.cmpKind_ne PySem.F.cmpSplit_ne sb (PySem.F.cmpArgs_ne _ _) ?_
      unfold Builtin.«object.__ne__»
      refine wpAny_bind (wpAny_of_eq (a := ((Value.ref x : Value), [b])) (by first | rfl | (simp only [slotArgs]; rfl)) ?_)
      dsimp only
      refine wpAny_bind (wpAny_cRoomFor (by show A.units + 1 < cLine; exact hu) ?_)
      refine wpAny_bind (W.ifBound_K KI I he hf (wpAny_mono go (fun v s' hv => ?_) fun _ _ e => e))
      obtain ⟨c, rfl, hq⟩ := hv
      dsimp only
      refine wpAny_bind (wpAny_truthy_bool (wpAny_pure ?_))
      exact ⟨(fun z => by cases z), hq⟩
    have l1 := I.type (M := model prog w)
    have l2 := W.looks_findIn (M := model prog w) KI h0
    unfold tryCompare
    refine wpAny_bind ?_
    simp only [callSpecialIfBound?, bindSpecialIfBound?]
    refine wpAny_holding (wpAny_bind (wpAny_bind (wpAny_bind (l1.here (l2.here ?_)))))
    simp only [S.bind]
    have fin : wpAny (model prog w) A (call (.builtin "object.__ne__") ([.ref x] ++ [b]) >>= fun v => pure (some v)) (fun r s' => wpAny (model prog w) A (match r with
      | some .notImplemented | none => pure none
      | some v => pure (some v)) (fun r s' => ∃ v, r = some v ∧ Q v s') E s') E s := by
      refine wpAny_bind (wpAny_mono body (fun v s' z => wpAny_pure ?_) fun _ _ e => e)
      obtain ⟨nn, hq⟩ := z
      cases v <;> first | exact absurd rfl nn | exact wpAny_pure ⟨_, rfl, hq⟩
    refine wpAny_bind (wpAny_askSetting (wpAny_ite ?_))
    split
    · exact wpAny_bind (wpAny_pure (wpAny_pure fin))
    · exact wpAny_tryCatch (wpAny_bind (wpAny_pure (wpAny_pure fin)))
  have l1 := I.type (M := model prog w)
  unfold richCompare
  simp only [PySem.oneThing_ref]
  refine wpAny_holding (wpAny_bind (wpAny_cRoomFor (Nat.lt_of_succ_lt hu) ?_))
  refine wpAny_bind (l1.here (wpAny_bind (hb.here ?_)))
  split
  · rename_i q
    have e : W.subIn K tb (.ref C) = some false := by
      rcases Bool.or_eq_true_iff.mp hn with e | e
      · rw [beq_iff_eq.mp e] at q; simp at q
      · exact beq_iff_eq.mp e
    refine wpAny_bind ((W.looks_subIn KI e).here ?_)
    simp only [Bool.false_eq_true, if_false]
    refine wpAny_bind (wpAny_mono one (fun r s' z => ?_) fun _ _ e => e)
    obtain ⟨v, rfl, hq⟩ := z
    exact wpAny_pure hq
  · refine wpAny_bind (wpAny_pure ?_)
    simp only [Bool.false_eq_true, if_false]
    refine wpAny_bind (wpAny_mono one (fun r s' z => ?_) fun _ _ e => e)
    obtain ⟨v, rfl, hq⟩ := z
    exact wpAny_pure hq
end
end SpkX

namespace Spk
open PySem PySem.Spec PyProof.Rows L2
/-! ### own signs, own == with anything, what is raised at the caller's slots -/
structure RdyOpX (P : Program) (w : World) (K : PySem.W.Frag) (mg : Str → Option Value) (bh : Heap) (C : Addr) (m : Str) (k : Nat) (sp : Sp) (f : Addr) : Prop where
  ok : FnR P w K mg bh (L2.CX P w) k f sp
  at_ : PySem.W.findIn K (.ref C) m = some (some (.ref f))
  fn : PySem.W.isFn K (.ref f) = true
theorem rel_ni : ∀ v : V, ¬ RelV v .notImplemented := fun v h => by
  cases v <;> first | (obtain ⟨t, z⟩ := h; cases z) | cases h
theorem passAt0 {X : Cx} {σ : L2.St} : PassesAt (L2.CX X.prog X.w) X σ E0 := fun _ _ _ _ _ _ ⟨_, _, _, _, _, _, _, _, _, _, _, _, h⟩ => h.elim
section
variable {X : Cx} {CX : CXT} {pins : List (Addr × Obj)} {σ : L2.St} {H : Hp} {s : Shared} {k j : Nat} {f C : Addr} {sp : Sp} {E : XK} {Q : VK} {us : List Value} {vs : List V}
theorem run_atX {A : Around} (F : FnR X.prog X.w X.K X.mg X.base CX k f sp) (rm : Room k A) (hf : A.frames = X.A.frames) (hx : PassesAt CX X σ E) (I : Inv X pins σ H s) (r : Vals vs us) (h : sp vs H Q E) :
    wpAny (model X.prog X.w) A (call (.ref f) us) (EP X pins σ Q) X.xe s := by
  have e := I.env0
  have e0 : Env0 X.prog X.w X.K X.mg X.base A X.stack s H := ⟨by rw [hf]; exact e.frames, e.mod, e.bs, e.bsz, e.funs, e.frf, e.hok, e.bare⟩
  refine wpAny_call (codeAny_mono (F A X.stack s H us vs Q E rm e0 r h) fun r s' hq => ?_)
  match r, hq with
  | .error e, hq => exact hx pins H s e s' I hq
  | .ok (.ret u), hq => exact I.after hq
  | .ok .next, hq => exact hq.elim
  | .ok .brk, hq => exact hq.elim
  | .ok .cont, hq => exact hq.elim
theorem back_of {w : Value} {s' : Shared} (h : EP X pins σ Q w s') : PySem.W.CmpBack (EP X pins σ Q) w s' := by
  unfold PySem.W.CmpBack
  split
  · obtain ⟨v, H', I', r, q⟩ := h
    exact rel_ni v r
  · exact h
theorem run_back (F : FnR X.prog X.w X.K X.mg X.base CX k f sp) (rm : Room j X.A) (hj : k ≤ j) (hx : PassesAt CX X σ E) (I : Inv X pins σ H s) (r : Vals vs us) (h : sp vs H Q E) : wpAny (model X.prog X.w) X.A (call (.ref f) us) (PySem.W.CmpBack (EP X pins σ Q)) X.xe s :=
  thn (run_atX F (rm.mono hj) rfl hx I r h) fun _ _ z => back_of z
end
/-- an operation at slots -/
def OpRs (X : Cx) (f : Value → Value → Sem Value) (r : L2.St → R2) : Prop := ∀ (pins : List (Addr × Obj)) (s : Shared) (σ : L2.St) (H : Hp) (x y : V) (v u : Value) (Q : VK), Inv X pins σ H s → RelV x v → RelV y u → r σ x y H Q → wpAny (model X.prog X.w) X.A (f v u) (EP X pins σ Q) X.xe s
theorem pe_opS {X : Cx} {op : Operator} {r : L2.St → R2} {a b : Expr} {ta tb : TE} {pos : Pos} (ho : OpRs X (binaryOp op) r) (ha : PE X a ta) (hb : PE X b tb) : PE X (.BinOp a op b pos) (fun σ H Q => ta σ H fun x H1 => tb σ H1 fun y H2 => r σ x y H2 Q) :=
  ⟨fun pins s σ H Q I h => wpAny_BinOp (binT ha hb (R := fun x y H2 => r σ x y H2 Q) I h fun v u s2 x y H2 I2 rx ry q => ho pins s2 σ H2 x y v u Q I2 rx ry q)⟩
theorem noref_T {K : PySem.W.Frag} {T : String} {C : Addr} (hT : ((PySem.fastBuiltinMro T).map fun l => l.all isTy) = some true) : PySem.W.subIn K (.type T) (.ref C) = some false := by
  show (PySem.fastBuiltinMro T).map (fun l => l.contains (Value.ref C)) = some false
  obtain ⟨l, h1, h2⟩ := Option.map_eq_some_iff.mp hT
  rw [h1, Option.map_some]
  congr 1
  rw [Bool.eq_false_iff]
  intro hc
  have hm : Value.ref C ∈ l := by simpa using hc
  have := List.all_eq_true.mp h2 _ hm
  cases this
section
variable {X : Cx} {CX : CXT} {k j : Nat} {f C D : Addr} {sp : Sp} {E : L2.St → XK} {op : Operator}
/-- x op i, x an instance, i an int -/
theorem ops_int {fo ro rc : Option Value} (F : FnR X.prog X.w X.K X.mg X.base CX k f sp) (rm : Room j X.A) (hj : k ≤ j) (hx : ∀ σ, PassesAt CX X σ (E σ)) (hc : PySem.W.selfFirst X.K C = true) (hs : PySem.W.findIn X.K (.ref C) (PySem.dunder op.info.2) = some (some (.ref f))) (hf : PySem.W.isFn X.K (.ref f) = true)
    (hr : PySem.W.findIn X.K (.ref C) (dunderR op.info.2) = some rc) (hp : rc = none ∨ ∃ g : Addr, rc = some (.ref g)) (h1 : PySem.W.findIn X.K (.type "int") (PySem.dunder op.info.2) = some fo) (h2 : PySem.W.findIn X.K (.type "int") (dunderR op.info.2) = some ro) :
    OpRs X (binaryOp op) (fun σ x y H Q => ∃ a dx fs i, x = .ref a ∧ y = .int i ∧ H a = some (.ins C dx fs) ∧ sp [x, y] H Q (E σ)) := by
  intro pins s σ H x y v u Q I rx ry h
  obtain ⟨a, dx, fs, i, rfl, rfl, ha, hsp⟩ := h
  have rx0 := rx
  have ry0 := ry
  cases rx
  obtain ⟨t, rfl⟩ := ry
  obtain ⟨mA, J, _⟩ := ins_get I.hok ha
  obtain ⟨od, J, _⟩ := J.look
  obtain ⟨m, hF⟩ := I.fr
  refine PySem.W.ksp_binT (T := "int") (fo := fo) (ro := ro) (rc := rc) hF I.ok.mod.kin J rfl hc hs hf hr hp h1 h2 (noref_T (by decide +kernel)) ?_
  exact run_back F rm hj (hx σ) I (vs := [V.ref a, V.int i]) (.cons rx0 (.cons ry0 .nil)) hsp
/-- what the written part says of an own class without own bases -/
structure TwoC (K : PySem.W.Frag) (C : Addr) : Prop where
  mro : ∃ cd, PySem.W.clsIn K C = some cd ∧ cd.mro = [.ref C, .type "object"]
def FnAt (K : PySem.W.Frag) (C : Addr) (m : Str) : Prop := ∃ a : Option Value, PySem.W.findIn K (.ref C) m = some a ∧ (a = none ∨ ∃ g : Addr, a = some (.ref g))
/-- x op y, by x's own method, y of another class -/
theorem ops_left (F : FnR X.prog X.w X.K X.mg X.base CX k f sp) (rm : Room j X.A) (hj : k ≤ j) (hx : ∀ σ, PassesAt CX X σ (E σ)) (hC : TwoC X.K C) (hD : TwoC X.K D) (ne : C ≠ D) (hs : PySem.W.findIn X.K (.ref C) (PySem.dunder op.info.2) = some (some (.ref f))) (hf : PySem.W.isFn X.K (.ref f) = true)
    (hr : FnAt X.K C (dunderR op.info.2)) (d1 : FnAt X.K D (PySem.dunder op.info.2)) (d2 : FnAt X.K D (dunderR op.info.2)) (hsub : PySem.W.subIn X.K (.ref D) (.ref C) = some false)
    (o1 : PySem.W.findIn X.K (.type "object") (PySem.dunder op.info.2) = some none) (o2 : PySem.W.findIn X.K (.type "object") (dunderR op.info.2) = some none) :
    OpRs X (binaryOp op) (fun σ x y H Q => ∃ a b dx dy fs gs, x = .ref a ∧ y = .ref b ∧ H a = some (.ins C dx fs) ∧ H b = some (.ins D dy gs) ∧ sp [x, y] H Q (E σ)) := by
  intro pins s σ H x y v u Q I rx ry h
  obtain ⟨a, b, dx, dy, fs, gs, rfl, rfl, ha, hb, hsp⟩ := h
  have rx0 := rx
  have ry0 := ry
  cases rx
  cases ry
  obtain ⟨mA, J, _⟩ := ins_get I.hok ha
  obtain ⟨mB, J', _⟩ := ins_get I.hok hb
  obtain ⟨od, J, _⟩ := J.look
  obtain ⟨od', J', _⟩ := J'.look
  obtain ⟨rc, e1, e2⟩ := hr
  obtain ⟨a2, e3, e4⟩ := d1
  obtain ⟨b2, e5, e6⟩ := d2
  obtain ⟨cc, m1, m2⟩ := hC.mro
  obtain ⟨cd, m3, m4⟩ := hD.mro
  exact SpkX.bin_left I.kIn J J' (by simpa using ne) m1 m2 m3 m4 hs e1 e2 hf e3 e5 e4 e6 hsub o1 o2 (run_back F rm hj (hx σ) I (vs := [V.ref a, V.ref b]) (.cons rx0 (.cons ry0 .nil)) hsp)
/-- x op y, by y's own method, x's class has no such sign -/
theorem ops_right (F : FnR X.prog X.w X.K X.mg X.base CX k f sp) (rm : Room j X.A) (hj : k ≤ j) (hx : ∀ σ, PassesAt CX X σ (E σ)) (hC : TwoC X.K C) (hD : TwoC X.K D) (ne : C ≠ D) (hs : PySem.W.findIn X.K (.ref D) (dunderR op.info.2) = some (some (.ref f))) (hf : PySem.W.isFn X.K (.ref f) = true)
    (hr : FnAt X.K D (PySem.dunder op.info.2)) (c1 : PySem.W.findIn X.K (.ref C) (PySem.dunder op.info.2) = some none) (c2 : PySem.W.findIn X.K (.ref C) (dunderR op.info.2) = some none)
    (o1 : PySem.W.findIn X.K (.type "object") (PySem.dunder op.info.2) = some none) (o2 : PySem.W.findIn X.K (.type "object") (dunderR op.info.2) = some none) :
    OpRs X (binaryOp op) (fun σ x y H Q => ∃ a b dx dy fs gs, x = .ref a ∧ y = .ref b ∧ H a = some (.ins C dx fs) ∧ H b = some (.ins D dy gs) ∧ sp [y, x] H Q (E σ)) := by
  intro pins s σ H x y v u Q I rx ry h
  obtain ⟨a, b, dx, dy, fs, gs, rfl, rfl, ha, hb, hsp⟩ := h
  have rx0 := rx
  have ry0 := ry
  cases rx
  cases ry
  obtain ⟨mA, J, _⟩ := ins_get I.hok ha
  obtain ⟨mB, J', _⟩ := ins_get I.hok hb
  obtain ⟨od, J, _⟩ := J.look
  obtain ⟨od', J', _⟩ := J'.look
  obtain ⟨rc, e1, e2⟩ := hr
  obtain ⟨cc, m1, m2⟩ := hC.mro
  obtain ⟨cd, m3, m4⟩ := hD.mro
  exact SpkX.bin_right I.kIn J J' (by simpa using ne) m1 m2 m3 m4 hs e1 e2 hf c1 c2 o1 o2 (run_back F rm hj (hx σ) I (vs := [V.ref b, V.ref a]) (.cons ry0 (.cons rx0 .nil)) hsp)
/-- x == y, y anything whose type is not below x's class -/
theorem op_eqAny (F : FnR X.prog X.w X.K X.mg X.base CX0 k f sp) (rm : Room j X.A) (hj : k ≤ j) (hs : PySem.W.findIn X.K (.ref C) "__eq__" = some (some (.ref f))) (hf : PySem.W.isFn X.K (.ref f) = true) :
    OpR X (compareOp .Eq) (fun x y H Q => ∃ a dx fs t, x = .ref a ∧ H a = some (.ins C dx fs) ∧ TyX X.K H y t ∧ PySem.W.notFirst X.K C t = true ∧ sp [x, y] H Q E0) := by
  intro pins s σ H x y v u Q I rx ry h
  obtain ⟨a, dx, fs, t, rfl, ha, ty, hn, hsp⟩ := h
  have rx0 := rx
  cases rx
  obtain ⟨P, kx, hP, _⟩ := kit_of I ry ty
  obtain ⟨mA, J, _⟩ := ins_get I.hok ha
  obtain ⟨od, J, _⟩ := J.look
  obtain ⟨m, hF⟩ := I.fr
  show wpAny (model X.prog X.w) X.A (richCompare .Eq (.ref a) u) (EP X pins σ Q) X.xe s
  refine PySem.W.cmp_K (op := .Eq) (tb := t) (rm.mono hj).units0 hF I.ok.mod.kin J (kx.ty _ _ I.kIn hP) hn hs hf ?_
  exact run_back F rm hj (fun _ _ _ _ _ _ h => h.elim) I (vs := [V.ref a, y]) (.cons rx0 (.cons ry .nil)) hsp
/-- x != y by x's own == -/
theorem op_neAny (F : FnR X.prog X.w X.K X.mg X.base CX0 k f sp) (rm : Room j X.A) (hj : k + 1 ≤ j) (hs : PySem.W.findIn X.K (.ref C) "__eq__" = some (some (.ref f))) (hf : PySem.W.isFn X.K (.ref f) = true) (h0 : PySem.W.findIn X.K (.ref C) "__ne__" = some (some (.builtin "object.__ne__"))) (hob : PySem.W.mroIn X.K C (.type "object") = some true) :
    OpR X (compareOp .NotEq) (fun x y H Q => ∃ a dx fs t, x = .ref a ∧ H a = some (.ins C dx fs) ∧ TyX X.K H y t ∧ PySem.W.notFirst X.K C t = true ∧ sp [x, y] H (fun v H' => ∃ c, v = .bl c ∧ Q (.bl (!c)) H') E0) := by
  intro pins s σ H x y v u Q I rx ry h
  obtain ⟨a, dx, fs, t, rfl, ha, ty, hn, hsp⟩ := h
  have rx0 := rx
  cases rx
  obtain ⟨P, kx, hP, _⟩ := kit_of I ry ty
  obtain ⟨mA, J, _⟩ := ins_get I.hok ha
  obtain ⟨od, J, _⟩ := J.look
  have rm1 := (rm.mono hj).in1
  show wpAny (model X.prog X.w) X.A (richCompare .NotEq (.ref a) u) (EP X pins σ Q) X.xe s
  refine SpkX.ne_own (by have := rm1.un; show X.A.in1.units < cLine; omega) I.kIn J (kx.ty _ _ I.kIn hP) hn hs hf h0 hob ?_
  refine thn (run_atX F rm1 rfl (fun _ _ _ _ _ _ h => h.elim) I (vs := [V.ref a, y]) (.cons rx0 (.cons ry .nil)) hsp) fun w s' z => ?_
  obtain ⟨v, H', I', r, c, rfl, q⟩ := z
  exact ⟨c, r, .bl (!c), H', I', rfl, q⟩
end
/-! ### over data -/
/-- the operands that == is asked of -/
def eqOk (es : List Str) : D → Bool
  | .ins e _ _ => es.contains e
  | .lst _ => false
  | .scr _ => false
  | _ => true
structure NfF (G : Gx) (c : Str) (es : List Str) : Prop where
  ow : ∀ e ∈ es, InsTy G e ∧ PySem.W.notFirst G.K (G.cm c) (.ref (G.cm e)) = true
def blNot : Option D → Option D
  | some (.bl b) => some (.bl (!b))
  | _ => none
theorem blNot_some {o : Option D} {d : D} (h : blNot o = some d) : ∃ b, o = some (.bl b) ∧ d = .bl (!b) := by
  unfold blNot at h
  split at h
  · cases h; exact ⟨_, rfl, rfl⟩
  · cases h
def ownEq (c : Str) (es : List Str) (fn : List Cell → Rs D) (x y : D) : Option D := if isIns c x = true ∧ eqOk es y = true then blOf (ans2 fn x y) else none
def ownNe (c : Str) (es : List Str) (fn : List Cell → Rs D) (x y : D) : Option D := if isIns c x = true ∧ eqOk es y = true then blNot (ans2 fn x y) else none
theorem not_of_type {K : PySem.W.Frag} {T : String} {C : Addr} (hT : ((PySem.fastBuiltinMro T).map fun l => l.all isTy) = some true) : PySem.W.notFirst K C (.type T) = true := by
  unfold PySem.W.notFirst
  rw [noref_T hT]
  simp
theorem eq_ty {G : Gx} {c : Str} {es : List Str} {y : D} (nf : NfF G c es) (h : eqOk es y = true) : ∃ t, PySem.W.notFirst G.K (G.cm c) t = true ∧ ∀ {H : Hp} {v : V}, Rp G H v y → TyX G.K H v t := by
  cases y with
  | ins e ks ds =>
    obtain ⟨I, n⟩ := nf.ow e (by simpa [eqOk] using h)
    exact ⟨_, n, fun r => ty_rp (fun _ _ _ z => by cases z; exact I) r rfl⟩
  | lst ds => cases h
  | scr ns => cases h
  | non => exact ⟨_, not_of_type (T := "NoneType") (by decide +kernel), fun r => ty_rp (fun _ _ _ e => by cases e) r rfl⟩
  | bl _ => exact ⟨_, not_of_type (T := "bool") (by decide +kernel), fun r => ty_rp (fun _ _ _ e => by cases e) r rfl⟩
  | int _ => exact ⟨_, not_of_type (T := "int") (by decide +kernel), fun r => ty_rp (fun _ _ _ e => by cases e) r rfl⟩
  | str _ => exact ⟨_, not_of_type (T := "str") (by decide +kernel), fun r => ty_rp (fun _ _ _ e => by cases e) r rfl⟩
  | tup _ => exact ⟨_, not_of_type (T := "tuple") (by decide +kernel), fun r => ty_rp (fun _ _ _ e => by cases e) r rfl⟩
theorem eqOk_nl {es : List Str} {y : D} (h : eqOk es y = true) : ∀ ds, y ≠ .lst ds := fun ds e => by subst e; cases h
section
variable {G : Gx} {X : Cx} {W : WX} {a b : Expr} {k j : Nat} {f : Addr} {fn : List Cell → Rs D} {c d : Str} {es : List Str} {pos : Pos} {fa fb : EX} {op : Operator}
theorem od_eqAny (R : RdyOp X.prog X.w X.K X.mg X.base (G.cm c) "__eq__" k (spD G 2 fn) f) (rm : Room j X.A) (hj : k ≤ j) (nf : NfF G c es) (hK : X.K = G.K := by rfl) : OpD G X (compareOp .Eq) (ownEq c es fn) := by
  refine ⟨_, op_eqAny R.ok rm hj R.at_ R.fn, fun F σ H Hf ρ v w x y d Q R0 rx ry h q => ?_⟩
  obtain ⟨cc, h⟩ := (show (isIns c x = true ∧ eqOk es y = true) ∧ blOf (ans2 fn x y) = some d by unfold ownEq at h; split at h; exact ⟨by assumption, h⟩; cases h)
  obtain ⟨b, h0, rfl⟩ := blOf_some h
  have rx := rx.ins cc.1
  have ry := ry.nl (eqOk_nl cc.2)
  obtain ⟨a1, dx, fs, e1, h1⟩ := ins_of rx cc.1
  obtain ⟨t, n, ty⟩ := eq_ty nf cc.2
  exact ⟨a1, dx, fs, t, e1, R0.sub _ _ h1, hK ▸ ty (ry.mono R0.sub), hK ▸ n, run2 R0 rx ry h0 fun u H' Hf' R' s ru => q u H' Hf' R' s ru⟩
theorem od_neAny (R : RdyOp X.prog X.w X.K X.mg X.base (G.cm c) "__eq__" k (spD G 2 fn) f) (rm : Room j X.A) (hj : k + 1 ≤ j) (nf : NfF G c es) (h0 : PySem.W.findIn X.K (.ref (G.cm c)) "__ne__" = some (some (.builtin "object.__ne__"))) (hob : PySem.W.mroIn X.K (G.cm c) (.type "object") = some true) (hK : X.K = G.K := by rfl) : OpD G X (compareOp .NotEq) (ownNe c es fn) := by
  refine ⟨_, op_neAny R.ok rm hj R.at_ R.fn h0 hob, fun F σ H Hf ρ v w x y d Q R0 rx ry h q => ?_⟩
  obtain ⟨cc, h⟩ := (show (isIns c x = true ∧ eqOk es y = true) ∧ blNot (ans2 fn x y) = some d by unfold ownNe at h; split at h; exact ⟨by assumption, h⟩; cases h)
  obtain ⟨b, h0, rfl⟩ := blNot_some h
  have rx := rx.ins cc.1
  have ry := ry.nl (eqOk_nl cc.2)
  obtain ⟨a1, dx, fs, e1, h1⟩ := ins_of rx cc.1
  obtain ⟨t, n, ty⟩ := eq_ty nf cc.2
  exact ⟨a1, dx, fs, t, e1, R0.sub _ _ h1, hK ▸ ty (ry.mono R0.sub), hK ▸ n, run2 R0 rx ry h0 fun u H' Hf' R' s ru => ⟨b, rp_b ru, q _ H' Hf' R' s (.bl _)⟩⟩
/-- signs of instances; what is raised goes on -/
def eOpX (t : D → D → Bool) (sw : Bool) (fn : List Cell → Rs D) (fa fb : EX) : EX := fun ρ => (fa ρ).bind fun x ρ1 => (fb ρ1).bind fun y ρ2 => if t x y = true then (if sw = true then appF 2 fn [] [.val y, .val x] ρ2 else appF 2 fn [] [.val x, .val y] ρ2) else .bad
/-- the same where nothing is let out -/
def eOpN (t : D → D → Bool) (sw : Bool) (fn : List Cell → Rs D) (fa fb : EX) : EX := fun ρ => (fa ρ).bind fun x ρ1 => (fb ρ1).bind fun y ρ2 => if t x y = true then (if sw = true then appF 2 fn [] [.val y, .val x] ρ2 else appF 2 fn [] [.val x, .val y] ρ2).nx else .bad
def isI : D → Bool
  | .int _ => true
  | _ => false
def tI (c : Str) (x y : D) : Bool := isIns c x && isI y
def t2 (c d : Str) (x y : D) : Bool := isIns c x && isIns d y
def OpTest (G : Gx) (X : Cx) (op : Operator) (t : D → D → Bool) (sw : Bool) (sp : Sp) (E : L2.St → XK) : Prop := ∃ r, OpRs X (binaryOp op) r ∧ ∀ (Hf H : Hp) (σ : L2.St) (x y : D) (v w : V) (Q : VK), Rp G Hf v x → Rp G Hf w y → Same Hf H → t x y = true → sp (if sw = true then [w, v] else [v, w]) H Q (E σ) → r σ v w H Q
theorem de_opX {t : D → D → Bool} {sw : Bool} (h : OpTest G X op t sw (spD G 2 fn) (WE W)) (ha : DE G X W a fa) (hb : DE G X W b fb) : DE G X W (.BinOp a op b pos) (eOpX t sw fn fa fb) := by
  obtain ⟨r, ho, hr⟩ := h
  obtain ⟨t1, p1, q1⟩ := DE.elim ha
  obtain ⟨t2, p2, q2⟩ := DE.elim hb
  refine DE.intro ⟨_, pe_opS ho p1 p2, fun F σ H Hf ρ Q Rr p => ?_⟩
  refine q1 F σ H Hf ρ _ Rr ((PostE.bind p).imp fun x H1 Hf1 ρ1 _ R1 s1 p v r1 => ?_)
  refine q2 F σ H1 Hf1 ρ1 _ R1 ((PostE.bind p).imp fun y H2 Hf2 ρ2 _ R2 s2 p w r2 => ?_)
  have r1 := r1.mono s2
  by_cases cc : t x y = true
  · rw [if_pos cc] at p
    refine hr Hf2 H2 σ x y v w Q r1 r2 R2.sub cc ?_
    cases sw with
    | true => exact app_ok (vs := [w, v]) (as := [.val y, .val x]) (W := W) R2 (.cons r2 (.cons r1 .nil)) .nil (fun _ _ _ _ _ h => h) p
    | false => exact app_ok (vs := [v, w]) (as := [.val x, .val y]) (W := W) R2 (.cons r1 (.cons r2 .nil)) .nil (fun _ _ _ _ _ h => h) p
  · rw [if_neg cc] at p; exact p.elim
theorem de_opN {t : D → D → Bool} {sw : Bool} (h : OpTest G X op t sw (spD G 2 fn) (fun _ => E0)) (ha : DE G X W a fa) (hb : DE G X W b fb) : DE G X W (.BinOp a op b pos) (eOpN t sw fn fa fb) := by
  obtain ⟨r, ho, hr⟩ := h
  obtain ⟨t1, p1, q1⟩ := DE.elim ha
  obtain ⟨t2, p2, q2⟩ := DE.elim hb
  refine DE.intro ⟨_, pe_opS ho p1 p2, fun F σ H Hf ρ Q Rr p => ?_⟩
  refine q1 F σ H Hf ρ _ Rr ((PostE.bind p).imp fun x H1 Hf1 ρ1 _ R1 s1 p v r1 => ?_)
  refine q2 F σ H1 Hf1 ρ1 _ R1 ((PostE.bind p).imp fun y H2 Hf2 ρ2 _ R2 s2 p w r2 => ?_)
  have r1 := r1.mono s2
  by_cases cc : t x y = true
  · rw [if_pos cc] at p
    refine hr Hf2 H2 σ x y v w Q r1 r2 R2.sub cc ?_
    cases sw with
    | true => exact app_ok (vs := [w, v]) (as := [.val y, .val x]) (W := W0) R2 (.cons r2 (.cons r1 .nil)) .nil (fun _ _ _ _ _ h => h) (PostE.nx (W := W) p)
    | false => exact app_ok (vs := [v, w]) (as := [.val x, .val y]) (W := W0) R2 (.cons r1 (.cons r2 .nil)) .nil (fun _ _ _ _ _ h => h) (PostE.nx (W := W) p)
  · rw [if_neg cc] at p; exact p.elim
theorem isI_of {H : Hp} {v : V} {y : D} (r : Rp G H v y) (h : isI y = true) : ∃ i, v = .int i := by
  cases r <;> first | exact ⟨_, rfl⟩ | cases h
theorem tst_int {CX : CXT} {E : L2.St → XK} {sp : Sp} {fo ro : Option Value} (F : FnR X.prog X.w X.K X.mg X.base CX k f sp) (rm : Room j X.A) (hj : k ≤ j) (hx : ∀ σ, PassesAt CX X σ (E σ)) (hc : PySem.W.selfFirst X.K (G.cm c) = true) (hs : PySem.W.findIn X.K (.ref (G.cm c)) (PySem.dunder op.info.2) = some (some (.ref f))) (hf : PySem.W.isFn X.K (.ref f) = true)
    (hr : FnAt X.K (G.cm c) (dunderR op.info.2)) (h1 : PySem.W.findIn X.K (.type "int") (PySem.dunder op.info.2) = some fo := by decide +kernel) (h2 : PySem.W.findIn X.K (.type "int") (dunderR op.info.2) = some ro := by decide +kernel) : OpTest G X op (tI c) false sp E := by
  obtain ⟨rc, e1, e2⟩ := hr
  refine ⟨_, ops_int F rm hj hx hc hs hf e1 e2 h1 h2, fun Hf H σ x y v w Q r1 r2 s h hsp => ?_⟩
  obtain ⟨c1, c2⟩ := Bool.and_eq_true_iff.mp h
  obtain ⟨a, dx, fs, ea, ha⟩ := ins_of r1 c1
  obtain ⟨i, ei⟩ := isI_of r2 c2
  exact ⟨a, dx, fs, i, ea, ei, s _ _ ha, hsp⟩
theorem tst_left {CX : CXT} {E : L2.St → XK} {sp : Sp} (F : FnR X.prog X.w X.K X.mg X.base CX k f sp) (rm : Room j X.A) (hj : k ≤ j) (hx : ∀ σ, PassesAt CX X σ (E σ)) (hC : TwoC X.K (G.cm c)) (hD : TwoC X.K (G.cm d)) (hsf : PySem.W.subIn X.K (.ref (G.cm c)) (.ref (G.cm c)) = some true) (hs : PySem.W.findIn X.K (.ref (G.cm c)) (PySem.dunder op.info.2) = some (some (.ref f))) (hf : PySem.W.isFn X.K (.ref f) = true)
    (hr : FnAt X.K (G.cm c) (dunderR op.info.2)) (d1 : FnAt X.K (G.cm d) (PySem.dunder op.info.2)) (d2 : FnAt X.K (G.cm d) (dunderR op.info.2)) (hsub : PySem.W.subIn X.K (.ref (G.cm d)) (.ref (G.cm c)) = some false)
    (o1 : PySem.W.findIn X.K (.type "object") (PySem.dunder op.info.2) = some none := by decide +kernel) (o2 : PySem.W.findIn X.K (.type "object") (dunderR op.info.2) = some none := by decide +kernel) : OpTest G X op (t2 c d) false sp E := by
  refine ⟨_, ops_left F rm hj hx hC hD (fun z => by rw [← z, hsf] at hsub; cases hsub) hs hf hr d1 d2 hsub o1 o2, fun Hf H σ x y v w Q r1 r2 s h hsp => ?_⟩
  obtain ⟨c1, c2⟩ := Bool.and_eq_true_iff.mp h
  obtain ⟨a, dx, fs, ea, ha⟩ := ins_of r1 c1
  obtain ⟨b, dy, gs, eb, hb⟩ := ins_of r2 c2
  exact ⟨a, b, dx, dy, fs, gs, ea, eb, s _ _ ha, s _ _ hb, hsp⟩
theorem tst_right {CX : CXT} {E : L2.St → XK} {sp : Sp} (F : FnR X.prog X.w X.K X.mg X.base CX k f sp) (rm : Room j X.A) (hj : k ≤ j) (hx : ∀ σ, PassesAt CX X σ (E σ)) (hC : TwoC X.K (G.cm c)) (hD : TwoC X.K (G.cm d)) (hsf : PySem.W.subIn X.K (.ref (G.cm c)) (.ref (G.cm c)) = some true) (hsub : PySem.W.subIn X.K (.ref (G.cm d)) (.ref (G.cm c)) = some false) (hs : PySem.W.findIn X.K (.ref (G.cm d)) (dunderR op.info.2) = some (some (.ref f))) (hf : PySem.W.isFn X.K (.ref f) = true)
    (hr : FnAt X.K (G.cm d) (PySem.dunder op.info.2)) (c1 : PySem.W.findIn X.K (.ref (G.cm c)) (PySem.dunder op.info.2) = some none) (c2 : PySem.W.findIn X.K (.ref (G.cm c)) (dunderR op.info.2) = some none)
    (o1 : PySem.W.findIn X.K (.type "object") (PySem.dunder op.info.2) = some none := by decide +kernel) (o2 : PySem.W.findIn X.K (.type "object") (dunderR op.info.2) = some none := by decide +kernel) : OpTest G X op (t2 c d) true sp E := by
  refine ⟨_, ops_right F rm hj hx hC hD (fun z => by rw [← z, hsf] at hsub; cases hsub) hs hf hr c1 c2 o1 o2, fun Hf H σ x y v w Q r1 r2 s h hsp => ?_⟩
  obtain ⟨c1, c2⟩ := Bool.and_eq_true_iff.mp h
  obtain ⟨a, dx, fs, ea, ha⟩ := ins_of r1 c1
  obtain ⟨b, dy, gs, eb, hb⟩ := ins_of r2 c2
  exact ⟨a, b, dx, dy, fs, gs, ea, eb, s _ _ ha, s _ _ hb, hsp⟩
end
end Spk

namespace Spk
open PySem PySem.Spec PyProof.Rows L2
/-! ### constants of a class -/
/-- C.f, read off the class -/
structure CConst (K : PySem.W.Frag) (mg : Str → Option Value) (x f : Str) (v : V) : Prop where
  ex : ∃ (C : Addr) (mc u : Value), mg x = some (.ref C) ∧ ClX.CRead K C mc ∧ ClX.CVal K C mc f v u
theorem pe_cconst {X : Cx} {x f : Str} {v : V} {p pos : Pos} (h : CConst X.K X.mg x f v) (hg : Gl X x) (hd : (x == ("__debug__" : Str)) = false := by decide) (hb : attributeBase (.Name x p) f X.env (eval (.Name x p) X.env) = eval (.Name x p) X.env := by rfl) :
    PE X (.Attribute (.Name x p) f pos) (tC v) := by
  obtain ⟨C, mc, u, g, r, a⟩ := h.ex
  have q := ClX.pe_cval (X := X) (f := f) (pos := pos) (pe_glob (v := .ref C) (pos := p) hg g rfl hd) hb
  exact ⟨fun pins s σ H R I z => q.run pins s σ H R I ⟨C, mc, _, u, rfl, r, a, z⟩⟩
section
variable {G : Gx} {X : Cx} {W : WX} {e o : Expr} {es : List Expr} {os ks : List Opd} {pos p apos : Pos} {x m c g : Str} {k j n : Nat} {ps : List Str} {fn : List Cell → Rs D} {f : Addr} {fd : FuncData} {fo : EX}
theorem de_cconstI {i : Int} (h : CConst X.K X.mg x g (.int i)) (hg : Gl X x) (hd : (x == ("__debug__" : Str)) = false := by decide) (hb : attributeBase (.Name x p) g X.env (eval (.Name x p) X.env) = eval (.Name x p) X.env := by rfl) : DE G X W (.Attribute (.Name x p) g pos) (eC (.int i)) := de_cst (pe_cconst h hg hd hb) fun _ => .int i
/-- o.f, a constant of o's class -/
def ConI (G : Gx) (c g : Str) (i : Int) : Prop := Cls G.K (G.cm c) ∧ ∃ u, Con G.K (G.cm c) g (.int i) u
def eConI (c g : Str) (i : Int) (fo : EX) : EX := fun ρ => (fo ρ).bind fun d ρ1 => match d with
  | .ins C ks ds => if C = c ∧ (ks.zip ds).lookup g = none then .ok (.int i) ρ1 else .bad
  | _ => .bad
theorem de_conI {i : Int} (h : DE G X W o fo) (hc : ConI G c g i) (hK : X.K = G.K := by rfl) (hb : attributeBase o g X.env (eval o X.env) = eval o X.env := by rfl) : DE G X W (.Attribute o g pos) (eConI c g i fo) := by
  obtain ⟨t, p1, q1⟩ := DE.elim h
  refine DE.intro ⟨_, pe_con p1 hb, fun F σ H Hf ρ Q R p => q1 F σ H Hf ρ _ R ((PostE.bind p).imp fun d H1 Hf1 ρ1 _ R1 s1 p v r => ?_)⟩
  cases d with
  | ins C ks ds =>
    change PostE G F W σ Hf1 _ (if C = c ∧ (ks.zip ds).lookup g = none then Rs.ok (D.int i) ρ1 else .bad) at p
    by_cases cc : C = c ∧ (ks.zip ds).lookup g = none
    · rw [if_pos cc] at p
      have p2 : ∀ H' Hf', Rep G F σ H' Hf' ρ1 → Same Hf1 Hf' → ∀ v, Rp G Hf' v (.int i) → Q v H' := p
      obtain ⟨rfl, hl⟩ := cc
      obtain ⟨hcl, u, hu⟩ := hc
      cases r with
      | ins ha l rl => exact ⟨_, _, _, _, .int i, u, rfl, R1.sub _ _ ha, hK ▸ hcl, hK ▸ hu, rl.lookN l hl, p2 H1 Hf1 R1 (Same.refl _) _ (.int _)⟩
    · rw [if_neg cc] at p; exact p.elim
  | _ => exact p.elim
/-! ### methods -/
/-- how a call gives the values that lack -/
def Fill (K : PySem.W.Frag) (fd : FuncData) (ps : List Str) (dvs : List V) : Prop := ∃ ds, Vals dvs ds ∧ Binds K fd ps ds
structure RdyMm (P : Program) (w : World) (K : PySem.W.Frag) (mg : Str → Option Value) (bh : Heap) (C : Addr) (m : Str) (k : Nat) (ps : List Str) (sp : Sp) (f : Addr) (fd : FuncData) : Prop where
  ok : FnOk P w K mg bh (L2.CX P w) k f fd ps sp
  mt : Meth K C m f
  cl : Cls K C
def tMethD (C : Addr) (m : Str) (sp : Sp) (dvs : List V) (E : L2.St → XK) (ta : TE) (t : TA) : TE := fun σ H Q => ta σ H fun x H1 => ∃ a dx fs, x = .ref a ∧ H1 a = some (.ins C dx fs) ∧ fs.lookup m = none ∧ t σ H1 fun vs H2 => sp (x :: (vs ++ dvs)) H2 Q (E σ)
theorem pe_methD {C : Addr} {sp : Sp} {dvs : List V} {E : L2.St → XK} {ta : TE} {t : TA} {pl : Sem Bool} (R : RdyMm X.prog X.w X.K X.mg X.base C m k ps sp f fd) (fl : Fill X.K fd ps dvs) (rm : Room j X.A) (hj : k ≤ j) (he : PE X o ta) (hx : ∀ σ, PassesAt (L2.CX X.prog X.w) X σ (E σ)) (ha : PA X (e :: es) t)
    (hst : starEach (e :: es) X.env = (false, eval e X.env) :: starEach es X.env := by rfl) (hpl : (backTo pos (starEach es X.env)).any (·.1) = false := by rfl)
    (ht : eval (.Call (.Attribute o m apos) (e :: es) [] pos) X.env = (do
      let ov ← eval o X.env
      standAt apos.atName
      let (f, first) ← holding [ov] (getMethod ov m pl)
      callWith pos f first (backTo pos (starEach (e :: es) X.env)) (backToKw pos (keywordEach [] X.env))) := by rfl) :
    PE X (.Call (.Attribute o m apos) (e :: es) [] pos) (tMethD C m sp dvs E ta t) := by
  obtain ⟨ds, hv, bd⟩ := fl
  refine ⟨fun pins s σ H Q I h => ?_⟩
  refine PySem.W.methodCall_KW (pl := pl) (thn (he.run pins s σ H _ I h) fun u s1 z => ?_) ht
  obtain ⟨x, H1, I1, rx, a, dx, fs, ex, ea, l, q⟩ := z
  subst ex
  obtain rfl : u = Value.ref a := rx
  refine getmeth_ok I1 ea R.cl R.mt l ?_
  refine PySem.W.callWith_K (first := [.ref a]) (h₀ := X.base) I.ok.mod.kin R.mt.kp (thn (ha.run pos pins s1 σ H1 _ I1 q) fun us s2 z => ?_) hst hpl
  obtain ⟨vs, H2, I2, r, q2⟩ := z
  exact ⟨I2.kIn, run_fnSD (us := .ref a :: us) (vs := .ref a :: vs) R.ok (rm.mono hj) bd hv (hx σ) I2 (.cons rfl r) (by simpa using q2)⟩
theorem pe_methD0 {C : Addr} {sp : Sp} {dvs : List V} {E : L2.St → XK} {ta : TE} {pl : Sem Bool} (R : RdyMm X.prog X.w X.K X.mg X.base C m k ps sp f fd) (fl : Fill X.K fd ps dvs) (rm : Room j X.A) (hj : k ≤ j) (he : PE X o ta) (hx : ∀ σ, PassesAt (L2.CX X.prog X.w) X σ (E σ))
    (ht : eval (.Call (.Attribute o m apos) [] [] pos) X.env = (do
      let ov ← eval o X.env
      standAt apos.atName
      let (f, first) ← holding [ov] (getMethod ov m pl)
      callWith pos f first (backTo pos (starEach [] X.env)) (backToKw pos (keywordEach [] X.env))) := by rfl) :
    PE X (.Call (.Attribute o m apos) [] [] pos) (tMethD C m sp dvs E ta tNil) := by
  obtain ⟨ds, hv, bd⟩ := fl
  refine ⟨fun pins s σ H Q I h => ?_⟩
  refine PySem.W.methodCall_KW (pl := pl) (thn (he.run pins s σ H _ I h) fun u s1 z => ?_) ht
  obtain ⟨x, H1, I1, rx, a, dx, fs, ex, ea, l, q⟩ := z
  subst ex
  obtain rfl : u = Value.ref a := rx
  refine getmeth_ok I1 ea R.cl R.mt l ?_
  refine PySem.W.callWith_K0 (first := [.ref a]) I1.kIn R.mt.kp ?_
  exact run_fnSD (us := [.ref a]) (vs := [.ref a]) R.ok (rm.mono hj) bd hv (hx σ) I1 (.cons rfl .nil) q
def noKey (m : Str) : D → Bool
  | .ins _ ks ds => ((ks.zip ds).lookup m).isNone
  | _ => false
/-- o.m(..), what m raises goes on; nothing is let out -/
def eMethX (n : Nat) (fn : List Cell → Rs D) (c m : Str) (dfl : List D) (fo : EX) (os : List Opd) : EX := fun ρ => (fo ρ).bind fun d ρ1 => if isIns c d = true ∧ noKey m d = true then (evs os ρ1).bind fun as ρ2 => appF n fn dfl (.val d :: as) ρ2 else .bad
def eMethN (n : Nat) (fn : List Cell → Rs D) (c m : Str) (dfl : List D) (fo : EX) (os : List Opd) : EX := fun ρ => (fo ρ).bind fun d ρ1 => if isIns c d = true ∧ noKey m d = true then (evs os ρ1).bind fun as ρ2 => (appF n fn dfl (.val d :: as) ρ2).nx else .bad
theorem key_of {H : Hp} {v : V} {d : D} (r : Rp G H v d) (h : isIns c d = true ∧ noKey m d = true) : ∃ a dx fs, v = .ref a ∧ H a = some (.ins (G.cm c) dx fs) ∧ fs.lookup m = none := by
  cases r <;> try cases h.1
  rename_i h0 l rl
  obtain rfl := eq_of_beq h.1
  exact ⟨_, _, _, rfl, h0, rl.lookN l (by simpa [noKey] using h.2)⟩
theorem de_methX {dvs : List V} {dfl : List D} {pl : Sem Bool} (h : DE G X W o fo) (R : RdyMm X.prog X.w X.K X.mg X.base (G.cm c) m k ps (spD G n fn) f fd) (fl : Fill X.K fd ps dvs) (rm : Room j X.A) (hj : k ≤ j) (tk : Takes X W) (ha : DA G X W (e :: es) os) (rd : ∀ Hf, RpL G Hf dvs dfl)
    (hst : starEach (e :: es) X.env = (false, eval e X.env) :: starEach es X.env := by rfl) (hpl : (backTo pos (starEach es X.env)).any (·.1) = false := by rfl)
    (ht : eval (.Call (.Attribute o m apos) (e :: es) [] pos) X.env = (do
      let ov ← eval o X.env
      standAt apos.atName
      let (f, first) ← holding [ov] (getMethod ov m pl)
      callWith pos f first (backTo pos (starEach (e :: es) X.env)) (backToKw pos (keywordEach [] X.env))) := by rfl) : DE G X W (.Call (.Attribute o m apos) (e :: es) [] pos) (eMethX n fn c m dfl fo os) := by
  obtain ⟨t1, p1, q1⟩ := DE.elim h
  obtain ⟨t2, p2, q2⟩ := ha
  refine DE.intro ⟨_, pe_methD R fl rm hj p1 (fun σ => passAt tk σ) p2 hst hpl ht, fun F σ H Hf ρ Q Rr p => ?_⟩
  refine q1 F σ H Hf ρ _ Rr ((PostE.bind p).imp fun d H1 Hf1 ρ1 _ R1 s1 p v r => ?_)
  by_cases cc : isIns c d = true ∧ noKey m d = true
  · rw [if_pos cc] at p
    obtain ⟨a, dx, fs, ev, ha, hl⟩ := key_of r cc
    refine ⟨a, dx, fs, ev, R1.sub _ _ ha, hl, q2 F σ H1 Hf1 ρ1 _ R1 ((PostE.bind p).imp fun as H2 Hf2 ρ2 _ R2 s2 p vs rs => ?_)⟩
    have z := app_ok (vs := v :: vs) (as := .val d :: as) (W := W) (Qr := Qdat G) R2 (.cons (show ArgOk G σ Hf2 v (.val d) from r.mono s2) rs) (rd Hf2) (fun _ _ _ _ _ h => h) p
    exact z
  · rw [if_neg cc] at p; exact p.elim
theorem de_methN {dvs : List V} {dfl : List D} {pl : Sem Bool} (h : DE G X W o fo) (R : RdyMm X.prog X.w X.K X.mg X.base (G.cm c) m k ps (spD G n fn) f fd) (fl : Fill X.K fd ps dvs) (rm : Room j X.A) (hj : k ≤ j) (ha : DA G X W (e :: es) os) (rd : ∀ Hf, RpL G Hf dvs dfl)
    (hst : starEach (e :: es) X.env = (false, eval e X.env) :: starEach es X.env := by rfl) (hpl : (backTo pos (starEach es X.env)).any (·.1) = false := by rfl)
    (ht : eval (.Call (.Attribute o m apos) (e :: es) [] pos) X.env = (do
      let ov ← eval o X.env
      standAt apos.atName
      let (f, first) ← holding [ov] (getMethod ov m pl)
      callWith pos f first (backTo pos (starEach (e :: es) X.env)) (backToKw pos (keywordEach [] X.env))) := by rfl) : DE G X W (.Call (.Attribute o m apos) (e :: es) [] pos) (eMethN n fn c m dfl fo os) := by
  obtain ⟨t1, p1, q1⟩ := DE.elim h
  obtain ⟨t2, p2, q2⟩ := ha
  refine DE.intro ⟨_, pe_methD R fl rm hj p1 (fun σ => passAt0) p2 hst hpl ht, fun F σ H Hf ρ Q Rr p => ?_⟩
  refine q1 F σ H Hf ρ _ Rr ((PostE.bind p).imp fun d H1 Hf1 ρ1 _ R1 s1 p v r => ?_)
  by_cases cc : isIns c d = true ∧ noKey m d = true
  · rw [if_pos cc] at p
    obtain ⟨a, dx, fs, ev, ha, hl⟩ := key_of r cc
    refine ⟨a, dx, fs, ev, R1.sub _ _ ha, hl, q2 F σ H1 Hf1 ρ1 _ R1 ((PostE.bind p).imp fun as H2 Hf2 ρ2 _ R2 s2 p vs rs => ?_)⟩
    have z := app_ok (vs := v :: vs) (as := .val d :: as) (W := W0) (Qr := Qdat G) R2 (.cons (show ArgOk G σ Hf2 v (.val d) from r.mono s2) rs) (rd Hf2) (fun _ _ _ _ _ h => h) (PostE.nx (W := W) p)
    exact z
  · rw [if_neg cc] at p; exact p.elim
theorem de_methX0 {dvs : List V} {dfl : List D} {pl : Sem Bool} (h : DE G X W o fo) (R : RdyMm X.prog X.w X.K X.mg X.base (G.cm c) m k ps (spD G n fn) f fd) (fl : Fill X.K fd ps dvs) (rm : Room j X.A) (hj : k ≤ j) (tk : Takes X W) (rd : ∀ Hf, RpL G Hf dvs dfl)
    (ht : eval (.Call (.Attribute o m apos) [] [] pos) X.env = (do
      let ov ← eval o X.env
      standAt apos.atName
      let (f, first) ← holding [ov] (getMethod ov m pl)
      callWith pos f first (backTo pos (starEach [] X.env)) (backToKw pos (keywordEach [] X.env))) := by rfl) : DE G X W (.Call (.Attribute o m apos) [] [] pos) (eMethX n fn c m dfl fo []) := by
  obtain ⟨t1, p1, q1⟩ := DE.elim h
  refine DE.intro ⟨_, pe_methD0 R fl rm hj p1 (fun σ => passAt tk σ) ht, fun F σ H Hf ρ Q Rr p => ?_⟩
  refine q1 F σ H Hf ρ _ Rr ((PostE.bind p).imp fun d H1 Hf1 ρ1 _ R1 s1 p v r => ?_)
  by_cases cc : isIns c d = true ∧ noKey m d = true
  · rw [if_pos cc] at p
    obtain ⟨a, dx, fs, ev, ha, hl⟩ := key_of r cc
    refine ⟨a, dx, fs, ev, R1.sub _ _ ha, hl, ?_⟩
    have z := app_ok (vs := [v]) (as := [.val d]) (W := W) (Qr := Qdat G) R1 (.cons (show ArgOk G σ Hf1 v (.val d) from r) .nil) (rd Hf1) (fun _ _ _ _ _ h => h) p
    exact z
  · rw [if_neg cc] at p; exact p.elim
theorem de_methN0 {dvs : List V} {dfl : List D} {pl : Sem Bool} (h : DE G X W o fo) (R : RdyMm X.prog X.w X.K X.mg X.base (G.cm c) m k ps (spD G n fn) f fd) (fl : Fill X.K fd ps dvs) (rm : Room j X.A) (hj : k ≤ j) (rd : ∀ Hf, RpL G Hf dvs dfl)
    (ht : eval (.Call (.Attribute o m apos) [] [] pos) X.env = (do
      let ov ← eval o X.env
      standAt apos.atName
      let (f, first) ← holding [ov] (getMethod ov m pl)
      callWith pos f first (backTo pos (starEach [] X.env)) (backToKw pos (keywordEach [] X.env))) := by rfl) : DE G X W (.Call (.Attribute o m apos) [] [] pos) (eMethN n fn c m dfl fo []) := by
  obtain ⟨t1, p1, q1⟩ := DE.elim h
  refine DE.intro ⟨_, pe_methD0 R fl rm hj p1 (fun σ => passAt0) ht, fun F σ H Hf ρ Q Rr p => ?_⟩
  refine q1 F σ H Hf ρ _ Rr ((PostE.bind p).imp fun d H1 Hf1 ρ1 _ R1 s1 p v r => ?_)
  by_cases cc : isIns c d = true ∧ noKey m d = true
  · rw [if_pos cc] at p
    obtain ⟨a, dx, fs, ev, ha, hl⟩ := key_of r cc
    refine ⟨a, dx, fs, ev, R1.sub _ _ ha, hl, ?_⟩
    have z := app_ok (vs := [v]) (as := [.val d]) (W := W0) (Qr := Qdat G) R1 (.cons (show ArgOk G σ Hf1 v (.val d) from r) .nil) (rd Hf1) (fun _ _ _ _ _ h => h) (PostE.nx (W := W) p)
    exact z
  · rw [if_neg cc] at p; exact p.elim
end
/-! ### making an instance, raising or not, with defaults and keywords -/
structure RdyMkX (P : Program) (w : World) (K : PySem.W.Frag) (mg : Str → Option Value) (bh : Heap) (x : Str) (C : Addr) (k : Nat) (ps : List Str) (sp : Sp) (f : Addr) (fd : FuncData) : Prop where
  ok : FnOk P w K mg bh (L2.CX P w) k f fd ps sp
  mkr : Mk K C f
  gl : mg x = some (.ref C)
/-- how a call with n values and keywords binds -/
def FillK (K : PySem.W.Frag) (fd : FuncData) (ps : List Str) (n : Nat) (ks : List Str) (gV : List V → List V → List V) : Prop := ∃ g, KBn K fd ps n ks g gV
section
variable {X : Cx} {k j : Nat} {C f : Addr} {fd : FuncData} {ps ks : List Str} {sp : Sp} {E : L2.St → XK} {x : Str} {e : Expr} {es : List Expr} {t tk : TA} {p pos : Pos} {kws : List Keyword}
theorem run_mkG {pins : List (Addr × Obj)} {σ : L2.St} {H : Hp} {s : Shared} {Q : VK} {us : List Value} {kw : List (Str × Value)} {al : Value → List Value} {av : V → List V} (M : Mk X.K C f) (F : FnOk X.prog X.w X.K X.mg X.base (L2.CX X.prog X.w) k f fd ps sp) (hr : Room (k + 1) X.A)
    (hb : ∀ (a : Addr) (s : Shared), X.K.In s.heap → BindsTo s fd ⟨.ref a :: us, kw⟩ (ps.zip (al (.ref a)))) (rv : ∀ a : Addr, Vals (av (.ref a)) (al (.ref a))) (hx : PassesAt (L2.CX X.prog X.w) X σ (E σ)) (I : Inv X pins σ H s)
    (h : ∀ x dx, H x = none → H dx = none → dx ≠ x → sp (av (.ref x)) (upd (upd H dx (.own x)) x (.ins C dx [])) (fun v H2 => v = .non ∧ Q (.ref x) H2) (E σ)) :
    wpAny (model X.prog X.w) X.A (call (.ref C) us kw) (EP X pins σ Q) X.xe s := by
  have hq := h (s.heap.objs.size + 1) s.heap.objs.size (I.hok.fresh (Nat.le_succ _)) (I.hok.fresh (Nat.le_refl _)) (Nat.ne_of_lt (Nat.lt_succ_self _))
  have I2 := Inv.made (C := C) I
  refine wpAny_call (make_map (f := f) I.kIn M.makes M.init (beq_iff_eq.mp M.fn) (codeAny_mono (F.run _ X.stack _ _ ⟨Value.ref (s.heap.objs.size + 1) :: us, kw⟩ (al (Value.ref (s.heap.objs.size + 1))) _ _ (E σ) (hr.make C us kw)
    (I2.env0.make C us kw) (hb _ _ I2.kIn) (rv _) hq) fun r s' z => ?_))
  match r, z with
  | .error er, z => exact hx pins _ _ er s' I2 z
  | .ok (.ret u), z =>
    obtain ⟨v, H', I3, rv, ev, q3⟩ := I2.after z
    subst ev
    exact ⟨rv, ⟨V.ref (s.heap.objs.size + 1), H', I3, rfl, q3⟩⟩
  | .ok .next, z => exact z.elim
  | .ok .brk, z => exact z.elim
  | .ok .cont, z => exact z.elim
def tMkD (C : Addr) (sp : Sp) (dvs : List V) (E : L2.St → XK) (t : TA) : TE := fun σ H Q => t σ H fun vs H1 => ∀ x dx, H1 x = Option.none → H1 dx = Option.none → dx ≠ x → sp (.ref x :: (vs ++ dvs)) (upd (upd H1 dx (.own x)) x (.ins C dx [])) (fun v H2 => v = .non ∧ Q (.ref x) H2) (E σ)
theorem bind_len {K : PySem.W.Frag} {ds : List Value} {dvs : List V} (bd : Binds K fd ps ds) {a : Addr} {us : List Value} (hl : (Value.ref a :: us ++ ds).length = ps.length) (s : Shared) (kin : K.In s.heap) : BindsTo s fd ⟨.ref a :: us, []⟩ (ps.zip (Value.ref a :: us ++ ds)) := bd s (Value.ref a :: us) kin hl
theorem pe_mkD {dvs : List V} (R : RdyMkX X.prog X.w X.K X.mg X.base x C k ps sp f fd) (fl : Fill X.K fd ps dvs) (rm : Room j X.A) (hj : k + 1 ≤ j) (hg : Gl X x) (hx : ∀ σ, PassesAt (L2.CX X.prog X.w) X σ (E σ)) (ha : PA X (e :: es) t) (hdb : (x == ("__debug__" : Str)) = false := by decide)
    (he : starEach (e :: es) X.env = (false, eval e X.env) :: starEach es X.env := by rfl) (hpl : (backTo pos (starEach es X.env)).any (·.1) = false := by rfl) : PE X (.Call (.Name x p) (e :: es) [] pos) (tMkD C sp dvs E t) := by
  obtain ⟨ds, hv, bd⟩ := fl
  refine ⟨fun pins s σ H Q I h => ?_⟩
  refine wpAny_Call_Name_kw (ld_glob I hg R.gl ?_ hdb)
  refine PySem.W.callWith_K (h₀ := X.base) I.ok.mod.kin R.mkr.kp (thn (ha.run pos pins s σ H _ I h) fun us s1 z => ?_) he hpl
  obtain ⟨vs, H1, I1, r, q⟩ := z
  refine ⟨I1.kIn, ?_⟩
  have rv : ∀ a : Addr, Vals (V.ref a :: (vs ++ dvs)) (Value.ref a :: us ++ ds) := fun a => .cons rfl (r.append hv)
  have hq0 := q (s1.heap.objs.size + 1) s1.heap.objs.size (I1.hok.fresh (Nat.le_succ _)) (I1.hok.fresh (Nat.le_refl _)) (Nat.ne_of_lt (Nat.lt_succ_self _))
  have hl : ∀ a : Addr, (Value.ref a :: us ++ ds).length = ps.length := fun a => by
    have e1 := (rv a).length
    have e2 := R.ok.len _ _ _ _ hq0
    simp only [List.length_cons] at e1 e2 ⊢
    omega
  exact run_mkG (av := fun v => v :: (vs ++ dvs)) (al := fun v => v :: us ++ ds) R.mkr R.ok (rm.mono hj) (fun a s kin => bd s (Value.ref a :: us) kin (hl a)) rv (hx σ) I1 q
theorem pe_mkD0 {dvs : List V} (R : RdyMkX X.prog X.w X.K X.mg X.base x C k ps sp f fd) (fl : Fill X.K fd ps dvs) (rm : Room j X.A) (hj : k + 1 ≤ j) (hg : Gl X x) (hx : ∀ σ, PassesAt (L2.CX X.prog X.w) X σ (E σ)) (hdb : (x == ("__debug__" : Str)) = false := by decide) : PE X (.Call (.Name x p) [] [] pos) (tMkD C sp dvs E tNil) := by
  obtain ⟨ds, hv, bd⟩ := fl
  refine ⟨fun pins s σ H Q I h => ?_⟩
  refine wpAny_Call_Name_kw (ld_glob I hg R.gl ?_ hdb)
  refine PySem.W.callWith_K0 I.kIn R.mkr.kp ?_
  have rv : ∀ a : Addr, Vals (V.ref a :: ([] ++ dvs)) (Value.ref a :: [] ++ ds) := fun a => .cons rfl hv
  have hq0 := h (s.heap.objs.size + 1) s.heap.objs.size (I.hok.fresh (Nat.le_succ _)) (I.hok.fresh (Nat.le_refl _)) (Nat.ne_of_lt (Nat.lt_succ_self _))
  have hl : ∀ a : Addr, (Value.ref a :: [] ++ ds).length = ps.length := fun a => by
    have e1 := (rv a).length
    have e2 := R.ok.len _ _ _ _ hq0
    simp only [List.length_cons] at e1 e2 ⊢
    omega
  exact run_mkG (av := fun v => v :: ([] ++ dvs)) (al := fun v => v :: [] ++ ds) R.mkr R.ok (rm.mono hj) (fun a s kin => bd s [Value.ref a] kin (hl a)) rv (hx σ) I h
def tMkK (C : Addr) (n m : Nat) (sp : Sp) (gV : List V → List V → List V) (E : L2.St → XK) (t tk : TA) : TE := fun σ H Q => t σ H fun vs H1 => tk σ H1 fun zs H2 => vs.length = n ∧ zs.length = m ∧ ∀ x dx, H2 x = Option.none → H2 dx = Option.none → dx ≠ x →
  sp (gV (.ref x :: vs) zs) (upd (upd H2 dx (.own x)) x (.ins C dx [])) (fun v H3 => v = .non ∧ Q (.ref x) H3) (E σ)
theorem pe_mkK {n : Nat} {gV : List V → List V → List V} (R : RdyMkX X.prog X.w X.K X.mg X.base x C k ps sp f fd) (fl : FillK X.K fd ps (n + 1) ks gV) (rm : Room j X.A) (hj : k + 1 ≤ j) (hg : Gl X x) (hx : ∀ σ, PassesAt (L2.CX X.prog X.w) X σ (E σ)) (ha : PA X (e :: es) t) (hkw : PK X kws tk)
    (hall : (backToKw pos (keywordEach kws X.env)).all (·.1.isSome) = true := by rfl) (hks : (backToKw pos (keywordEach kws X.env)).filterMap (·.1) = ks := by rfl) (hdb : (x == ("__debug__" : Str)) = false := by decide)
    (he : starEach (e :: es) X.env = (false, eval e X.env) :: starEach es X.env := by rfl) (hpl : ((backTo pos (starEach (e :: es) X.env)).any (·.1) || (backToKw pos (keywordEach kws X.env)).any (·.1.isNone)) = false := by rfl) :
    PE X (.Call (.Name x p) (e :: es) kws pos) (tMkK C n ks.length sp gV E t tk) := by
  obtain ⟨g, hb⟩ := fl
  refine ⟨fun pins s σ H Q I h => ?_⟩
  refine wpAny_Call_Name_kw (ld_glob I hg R.gl ?_ hdb)
  refine PySem.W.callWith_KW (h₀ := X.base) I.ok.mod.kin R.mkr.kp hall (thn (ha.run pos pins s σ H _ I h) fun us s1 z => ?_) hpl he
  obtain ⟨vs, H1, I1, r, q⟩ := z
  refine thn (hkw.run pos pins s1 σ H1 _ I1 q) fun ws s2 z => ?_
  obtain ⟨zs, H2, I2, rz, l1, l2, q2⟩ := z
  refine ⟨I2.kIn, ?_⟩
  rw [hks]
  have n1 : ∀ a : Addr, (Value.ref a :: us).length = n + 1 := fun a => by rw [List.length_cons, ← r.length, l1]
  exact run_mkG (av := fun v => gV (v :: vs) zs) (al := fun v => g (v :: us) ws) R.mkr R.ok (rm.mono hj) (fun a s kin => hb.to s (Value.ref a :: us) ws kin (n1 a) (rz.length.symm.trans l2)) (fun a => hb.rel (.cons rfl r) rz) (hx σ) I2 q2
theorem pe_mkK0 {gV : List V → List V → List V} (R : RdyMkX X.prog X.w X.K X.mg X.base x C k ps sp f fd) (fl : FillK X.K fd ps 1 ks gV) (rm : Room j X.A) (hj : k + 1 ≤ j) (hg : Gl X x) (hx : ∀ σ, PassesAt (L2.CX X.prog X.w) X σ (E σ)) (hkw : PK X kws tk)
    (hall : (backToKw pos (keywordEach kws X.env)).all (·.1.isSome) = true := by rfl) (hks : (backToKw pos (keywordEach kws X.env)).filterMap (·.1) = ks := by rfl) (hdb : (x == ("__debug__" : Str)) = false := by decide)
    (hpl : ((backTo pos (starEach [] X.env)).any (·.1) || (backToKw pos (keywordEach kws X.env)).any (·.1.isNone)) = false := by rfl) : PE X (.Call (.Name x p) [] kws pos) (tMkK C 0 ks.length sp gV E tNil tk) := by
  obtain ⟨g, hb⟩ := fl
  refine ⟨fun pins s σ H Q I h => ?_⟩
  refine wpAny_Call_Name_kw (ld_glob I hg R.gl ?_ hdb)
  refine PySem.W.callWith_KW0 (h₀ := X.base) I.ok.mod.kin R.mkr.kp hall ?_ hpl
  refine thn (hkw.run pos pins s σ H _ I h) fun ws s2 z => ?_
  obtain ⟨zs, H2, I2, rz, l1, l2, q2⟩ := z
  refine ⟨I2.kIn, ?_⟩
  rw [hks]
  exact run_mkG (us := []) (av := fun v => gV [v] zs) (al := fun v => g [v] ws) R.mkr R.ok (rm.mono hj) (fun a s kin => hb.to s [Value.ref a] ws kin rfl (rz.length.symm.trans l2)) (fun a => hb.rel (.cons rfl .nil) rz) (hx σ) I2 q2
end
section
variable {G : Gx} {X : Cx} {W : WX} {e : Expr} {es : List Expr} {os kos : List Opd} {p pos : Pos} {x c : Str} {k j n : Nat} {ps : List Str} {fn : List Cell → Rs D} {f : Addr} {fd : FuncData} {kws : List Keyword} {dvs : List V} {dfl : List D}
/-- keywords' values -/
def DK (G : Gx) (X : Cx) (W : WX) (kws : List Keyword) (os : List Opd) : Prop := ∃ t, PK X kws t ∧ ∀ (F : Fr) (σ : L2.St) (H Hf : Hp) (ρ : PEnv) (Q : List V → Hp → Prop), Rep G F σ H Hf ρ →
  PostE G F W σ Hf (fun as H' Hf' _ => ∀ vs, ArgsOk G σ Hf' vs as → Q vs H') (evs os ρ) → t σ H Q
theorem dk_nil : DK G X W [] [] := ⟨_, pk_nil, fun F σ H Hf ρ Q R p => p H Hf R (Same.refl _) [] .nil⟩
theorem dk_cons {nm : Option Str} {kpos : Pos} {o : Opd} (h : DO G X W e o) (t : DK G X W kws kos) : DK G X W (⟨nm, e, kpos⟩ :: kws) (o :: kos) := by
  obtain ⟨t1, p1, q1⟩ := h
  obtain ⟨t2, p2, q2⟩ := t
  refine ⟨_, pk_cons p1 p2, fun F σ H Hf ρ Q R p => ?_⟩
  refine q1 F σ H Hf ρ _ R ((PostE.bind p).imp fun a H1 Hf1 ρ1 _ R1 s1 p v r => ?_)
  refine q2 F σ H1 Hf1 ρ1 _ R1 ((PostE.bind p).imp fun as H2 Hf2 ρ2 _ R2 s2 p vs rs => ?_)
  exact p H2 Hf2 R2 (Same.refl _) (v :: vs) (.cons (r.mono s2) rs)
def eMkX (n : Nat) (fn : List Cell → Rs D) (c : Str) (dfl : List D) (os : List Opd) : EX := fun ρ => (evs os ρ).bind fun as ρ1 => mkE n fn c dfl as ρ1
theorem de_mkX (R : RdyMkX X.prog X.w X.K X.mg X.base x (G.cm c) k ps (spD G n fn) f fd) (fl : Fill X.K fd ps dvs) (rm : Room j X.A) (hj : k + 1 ≤ j) (hg : Gl X x) (tk : Takes X W) (ha : DA G X W (e :: es) os) (rd : ∀ Hf, RpL G Hf dvs dfl) (hdb : (x == ("__debug__" : Str)) = false := by decide)
    (he : starEach (e :: es) X.env = (false, eval e X.env) :: starEach es X.env := by rfl) (hpl : (backTo pos (starEach es X.env)).any (·.1) = false := by rfl) : DE G X W (.Call (.Name x p) (e :: es) [] pos) (eMkX n fn c dfl os) := by
  obtain ⟨t1, p1, q1⟩ := ha
  refine DE.intro ⟨_, pe_mkD R fl rm hj hg (fun σ => passAt tk σ) p1 hdb he hpl, fun F σ H Hf ρ Q R p => ?_⟩
  refine q1 F σ H Hf ρ _ R ((PostE.bind p).imp fun as H1 Hf1 ρ1 _ R1 s1 p vs rs a dx na nd ne => ?_)
  exact make_ok (W := W) R1 rs (rd Hf1) p na nd ne
theorem de_mkN (R : RdyMkX X.prog X.w X.K X.mg X.base x (G.cm c) k ps (spD G n fn) f fd) (fl : Fill X.K fd ps dvs) (rm : Room j X.A) (hj : k + 1 ≤ j) (hg : Gl X x) (ha : DA G X W (e :: es) os) (rd : ∀ Hf, RpL G Hf dvs dfl) (hdb : (x == ("__debug__" : Str)) = false := by decide)
    (he : starEach (e :: es) X.env = (false, eval e X.env) :: starEach es X.env := by rfl) (hpl : (backTo pos (starEach es X.env)).any (·.1) = false := by rfl) : DE G X W (.Call (.Name x p) (e :: es) [] pos) (eMk n fn c dfl os) := by
  obtain ⟨t1, p1, q1⟩ := ha
  refine DE.intro ⟨_, pe_mkD R fl rm hj hg (fun σ => passAt0) p1 hdb he hpl, fun F σ H Hf ρ Q R p => ?_⟩
  refine q1 F σ H Hf ρ _ R ((PostE.bind p).imp fun as H1 Hf1 ρ1 _ R1 s1 p vs rs a dx na nd ne => ?_)
  exact make_ok (W := W0) R1 rs (rd Hf1) (PostE.nx (W := W) p) na nd ne
theorem de_mkX0 (R : RdyMkX X.prog X.w X.K X.mg X.base x (G.cm c) k ps (spD G n fn) f fd) (fl : Fill X.K fd ps dvs) (rm : Room j X.A) (hj : k + 1 ≤ j) (hg : Gl X x) (tk : Takes X W) (rd : ∀ Hf, RpL G Hf dvs dfl) (hdb : (x == ("__debug__" : Str)) = false := by decide) : DE G X W (.Call (.Name x p) [] [] pos) (eMkX n fn c dfl []) := by
  refine DE.intro ⟨_, pe_mkD0 R fl rm hj hg (fun σ => passAt tk σ) hdb, fun F σ H Hf ρ Q R p a dx na nd ne => ?_⟩
  exact make_ok (W := W) (vs := []) (as := []) R .nil (rd Hf) p na nd ne
theorem de_mkN0 (R : RdyMkX X.prog X.w X.K X.mg X.base x (G.cm c) k ps (spD G n fn) f fd) (fl : Fill X.K fd ps dvs) (rm : Room j X.A) (hj : k + 1 ≤ j) (hg : Gl X x) (rd : ∀ Hf, RpL G Hf dvs dfl) (hdb : (x == ("__debug__" : Str)) = false := by decide) : DE G X W (.Call (.Name x p) [] [] pos) (eMk n fn c dfl []) := by
  refine DE.intro ⟨_, pe_mkD0 R fl rm hj hg (fun σ => passAt0) hdb, fun F σ H Hf ρ Q R p a dx na nd ne => ?_⟩
  exact make_ok (W := W0) (vs := []) (as := []) R .nil (rd Hf) (PostE.nx (W := W) p) na nd ne
/-- keywords: gA puts the values in the parameters' order -/
def Arr (G : Gx) (n m : Nat) (gV : List V → List V → List V) (gA : List Arg → List Arg → List Arg) : Prop := ∀ (σ : L2.St) (Hf : Hp) (v : V) (vs zs : List V) (as bs : List Arg), vs.length = n → zs.length = m → ArgsOk G σ Hf vs as → ArgsOk G σ Hf zs bs → ∃ ws, gV (v :: vs) zs = v :: ws ∧ ArgsOk G σ Hf ws (gA as bs)
theorem ArgsOk.app {σ : L2.St} {Hf : Hp} {zs : List V} {bs : List Arg} (h2 : ArgsOk G σ Hf zs bs) : ∀ {vs : List V} {as : List Arg}, ArgsOk G σ Hf vs as → ArgsOk G σ Hf (vs ++ zs) (as ++ bs)
  | _, _, .nil => h2
  | _, _, .cons a t => .cons a (ArgsOk.app h2 t)
theorem ArgsOk.mono {σ : L2.St} {Hf Hf' : Hp} (s : Same Hf Hf') : ∀ {vs : List V} {as : List Arg}, ArgsOk G σ Hf vs as → ArgsOk G σ Hf' vs as
  | _, _, .nil => .nil
  | _, _, .cons a t => .cons (ArgOk.mono a s) (ArgsOk.mono s t)
theorem arr_app {n m : Nat} : Arr G n m (fun vs zs => vs ++ zs) (fun as bs => as ++ bs) := fun σ Hf v vs zs as bs _ _ h1 h2 => ⟨vs ++ zs, rfl, ArgsOk.app h2 h1⟩
def eMkKX (n : Nat) (fn : List Cell → Rs D) (c : Str) (l m : Nat) (gA : List Arg → List Arg → List Arg) (os kos : List Opd) : EX := fun ρ => (evs os ρ).bind fun as ρ1 => (evs kos ρ1).bind fun bs ρ2 => if as.length = l ∧ bs.length = m then mkE n fn c [] (gA as bs) ρ2 else .bad
def eMkKN (n : Nat) (fn : List Cell → Rs D) (c : Str) (l m : Nat) (gA : List Arg → List Arg → List Arg) (os kos : List Opd) : EX := fun ρ => (evs os ρ).bind fun as ρ1 => (evs kos ρ1).bind fun bs ρ2 => if as.length = l ∧ bs.length = m then (mkE n fn c [] (gA as bs) ρ2).nx else .bad
theorem mkK_run {W' : WX} {l m : Nat} {gV : List V → List V → List V} {gA : List Arg → List Arg → List Arg} (ga : Arr G l m gV gA) {F : Fr} {σ : L2.St} {H Hf : Hp} {ρ : PEnv} {Q : VK} {vs zs : List V} {as bs : List Arg} (R : Rep G F σ H Hf ρ) (h1 : ArgsOk G σ Hf vs as) (h2 : ArgsOk G σ Hf zs bs) (hl : as.length = l ∧ bs.length = m)
    (p : PostE G F W' σ Hf (fun d H' Hf' _ => ∀ v, Rp G Hf' v d → Q v H') (mkE n fn c [] (gA as bs) ρ)) : vs.length = l ∧ zs.length = m ∧ ∀ x dx, H x = Option.none → H dx = Option.none → dx ≠ x →
      spD G n fn (gV (.ref x :: vs) zs) (upd (upd H dx (.own x)) x (.ins (G.cm c) dx [])) (fun v H3 => v = .non ∧ Q (.ref x) H3) (fun c d H' => W' c d σ H') := by
  refine ⟨h1.len.trans hl.1, h2.len.trans hl.2, fun x dx na nd ne => ?_⟩
  obtain ⟨ws, e, hw⟩ := ga σ Hf (.ref x) vs zs as bs (h1.len.trans hl.1) (h2.len.trans hl.2) h1 h2
  rw [e]
  have z := make_ok (W := W') (dvs := []) (dfl := []) R hw .nil p na nd ne
  rw [List.append_nil] at z
  exact z
theorem de_mkKX {l : Nat} {kn : List Str} {gV : List V → List V → List V} {gA : List Arg → List Arg → List Arg} (R : RdyMkX X.prog X.w X.K X.mg X.base x (G.cm c) k ps (spD G n fn) f fd) (fl : FillK X.K fd ps (l + 1) kn gV) (ga : Arr G l kn.length gV gA) (rm : Room j X.A) (hj : k + 1 ≤ j) (hg : Gl X x) (tk : Takes X W) (ha : DA G X W (e :: es) os) (hk : DK G X W kws kos)
    (hall : (backToKw pos (keywordEach kws X.env)).all (·.1.isSome) = true := by rfl) (hks : (backToKw pos (keywordEach kws X.env)).filterMap (·.1) = kn := by rfl) (hdb : (x == ("__debug__" : Str)) = false := by decide)
    (he : starEach (e :: es) X.env = (false, eval e X.env) :: starEach es X.env := by rfl) (hpl : ((backTo pos (starEach (e :: es) X.env)).any (·.1) || (backToKw pos (keywordEach kws X.env)).any (·.1.isNone)) = false := by rfl) : DE G X W (.Call (.Name x p) (e :: es) kws pos) (eMkKX n fn c l kn.length gA os kos) := by
  obtain ⟨t1, p1, q1⟩ := ha
  obtain ⟨t2, p2, q2⟩ := hk
  refine DE.intro ⟨_, pe_mkK R fl rm hj hg (fun σ => passAt tk σ) p1 p2 hall hks hdb he hpl, fun F σ H Hf ρ Q R p => ?_⟩
  refine q1 F σ H Hf ρ _ R ((PostE.bind p).imp fun as H1 Hf1 ρ1 _ R1 s1 p vs rs => ?_)
  refine q2 F σ H1 Hf1 ρ1 _ R1 ((PostE.bind p).imp fun bs H2 Hf2 ρ2 _ R2 s2 p zs rz => ?_)
  by_cases hl : as.length = l ∧ bs.length = kn.length
  · rw [if_pos hl] at p
    exact mkK_run (W' := W) ga R2 (ArgsOk.mono s2 rs) rz hl p
  · rw [if_neg hl] at p; exact p.elim
theorem de_mkKN {l : Nat} {kn : List Str} {gV : List V → List V → List V} {gA : List Arg → List Arg → List Arg} (R : RdyMkX X.prog X.w X.K X.mg X.base x (G.cm c) k ps (spD G n fn) f fd) (fl : FillK X.K fd ps (l + 1) kn gV) (ga : Arr G l kn.length gV gA) (rm : Room j X.A) (hj : k + 1 ≤ j) (hg : Gl X x) (ha : DA G X W (e :: es) os) (hk : DK G X W kws kos)
    (hall : (backToKw pos (keywordEach kws X.env)).all (·.1.isSome) = true := by rfl) (hks : (backToKw pos (keywordEach kws X.env)).filterMap (·.1) = kn := by rfl) (hdb : (x == ("__debug__" : Str)) = false := by decide)
    (he : starEach (e :: es) X.env = (false, eval e X.env) :: starEach es X.env := by rfl) (hpl : ((backTo pos (starEach (e :: es) X.env)).any (·.1) || (backToKw pos (keywordEach kws X.env)).any (·.1.isNone)) = false := by rfl) : DE G X W (.Call (.Name x p) (e :: es) kws pos) (eMkKN n fn c l kn.length gA os kos) := by
  obtain ⟨t1, p1, q1⟩ := ha
  obtain ⟨t2, p2, q2⟩ := hk
  refine DE.intro ⟨_, pe_mkK R fl rm hj hg (fun σ => passAt0) p1 p2 hall hks hdb he hpl, fun F σ H Hf ρ Q R p => ?_⟩
  refine q1 F σ H Hf ρ _ R ((PostE.bind p).imp fun as H1 Hf1 ρ1 _ R1 s1 p vs rs => ?_)
  refine q2 F σ H1 Hf1 ρ1 _ R1 ((PostE.bind p).imp fun bs H2 Hf2 ρ2 _ R2 s2 p zs rz => ?_)
  by_cases hl : as.length = l ∧ bs.length = kn.length
  · rw [if_pos hl] at p
    exact mkK_run (W' := W0) ga R2 (ArgsOk.mono s2 rs) rz hl (PostE.nx (W := W) p)
  · rw [if_neg hl] at p; exact p.elim
theorem de_mkKX0 {kn : List Str} {gV : List V → List V → List V} {gA : List Arg → List Arg → List Arg} (R : RdyMkX X.prog X.w X.K X.mg X.base x (G.cm c) k ps (spD G n fn) f fd) (fl : FillK X.K fd ps 1 kn gV) (ga : Arr G 0 kn.length gV gA) (rm : Room j X.A) (hj : k + 1 ≤ j) (hg : Gl X x) (tk : Takes X W) (hk : DK G X W kws kos)
    (hall : (backToKw pos (keywordEach kws X.env)).all (·.1.isSome) = true := by rfl) (hks : (backToKw pos (keywordEach kws X.env)).filterMap (·.1) = kn := by rfl) (hdb : (x == ("__debug__" : Str)) = false := by decide)
    (hpl : ((backTo pos (starEach [] X.env)).any (·.1) || (backToKw pos (keywordEach kws X.env)).any (·.1.isNone)) = false := by rfl) : DE G X W (.Call (.Name x p) [] kws pos) (eMkKX n fn c 0 kn.length gA [] kos) := by
  obtain ⟨t2, p2, q2⟩ := hk
  refine DE.intro ⟨_, pe_mkK0 R fl rm hj hg (fun σ => passAt tk σ) p2 hall hks hdb hpl, fun F σ H Hf ρ Q R p => ?_⟩
  have p : PostE G F W σ Hf (fun d H' Hf' _ => ∀ v, Rp G Hf' v d → Q v H') ((evs kos ρ).bind fun bs ρ2 => if ([] : List Arg).length = 0 ∧ bs.length = kn.length then mkE n fn c [] (gA [] bs) ρ2 else .bad) := p
  refine q2 F σ H Hf ρ _ R ((PostE.bind p).imp fun bs H2 Hf2 ρ2 _ R2 s2 p zs rz => ?_)
  by_cases hl : ([] : List Arg).length = 0 ∧ bs.length = kn.length
  · rw [if_pos hl] at p
    exact mkK_run (W' := W) ga R2 .nil rz hl p
  · rw [if_neg hl] at p; exact p.elim
end
end Spk

namespace Spk
open PySem PySem.Spec PyProof.Rows L2
/-! ### defs that may raise, called where nothing is let out -/
section
variable {G : Gx} {X : Cx} {W : WX} {e o : Expr} {es : List Expr} {os : List Opd} {pos p : Pos} {x : Str} {k j n : Nat} {ps : List Str} {fn : List Cell → Rs D} {fl : List Cell → Rs (List D)} {f : Addr} {fd : FuncData} {dvs : List V} {dfl : List D}
theorem de_callXN (R : RdyX X.prog X.w X.K X.mg X.base x k ps (spD G n fn) f fd) (rm : Room j X.A) (hj : k ≤ j) (hg : Gl X x) (ha : DA G X W (e :: es) os) (hdb : (x == ("__debug__" : Str)) = false := by decide)
    (he : starEach (e :: es) X.env = (false, eval e X.env) :: starEach es X.env := by rfl) (hpl : (backTo pos (starEach es X.env)).any (·.1) = false := by rfl) : DE G X W (.Call (.Name x p) (e :: es) [] pos) (eCall n fn [] os) :=
  call_e0 ha (fun _ => .nil) fun pa => pe_callSD R.ok (rm.mono hj) hg R.gl R.kp R.bd .nil (fun σ => passAt0) pa hdb he hpl
theorem de_callXDN (R : RdyXD X.prog X.w X.K X.mg X.base x k ps dvs (spD G n fn) f fd) (rm : Room j X.A) (hj : k ≤ j) (hg : Gl X x) (ha : DA G X W (e :: es) os) (hdb : (x == ("__debug__" : Str)) = false := by decide)
    (he : starEach (e :: es) X.env = (false, eval e X.env) :: starEach es X.env := by rfl) (hpl : (backTo pos (starEach es X.env)).any (·.1) = false := by rfl) : DE G X W (.Call (.Name x p) (e :: es) [] pos) (eCall n fn [] os) :=
  call_e0 ha (fun _ => .nil) fun pa => pe_callSD R.ok (rm.mono hj) hg R.gl R.kp R.bd .nil (fun σ => passAt0) pa hdb he hpl
theorem de_callXD1N (R : RdyXD X.prog X.w X.K X.mg X.base x k ps dvs (spD G n fn) f fd) (rm : Room j X.A) (hj : k ≤ j) (hg : Gl X x) (ha : DA G X W (e :: es) os) (rd : ∀ Hf, RpL G Hf dvs dfl) (hdb : (x == ("__debug__" : Str)) = false := by decide)
    (he : starEach (e :: es) X.env = (false, eval e X.env) :: starEach es X.env := by rfl) (hpl : (backTo pos (starEach es X.env)).any (·.1) = false := by rfl) : DE G X W (.Call (.Name x p) (e :: es) [] pos) (eCall n fn dfl os) := by
  obtain ⟨ds, hv, bd⟩ := R.bd1
  exact call_e0 ha rd fun pa => pe_callSD R.ok (rm.mono hj) hg R.gl R.kp bd hv (fun σ => passAt0) pa hdb he hpl
theorem df_callXN (R : RdyX X.prog X.w X.K X.mg X.base x k ps (spF G n fl) f fd) (rm : Room j X.A) (hj : k ≤ j) (hg : Gl X x) (ha : DA G X W (e :: es) os) (hdb : (x == ("__debug__" : Str)) = false := by decide)
    (he : starEach (e :: es) X.env = (false, eval e X.env) :: starEach es X.env := by rfl) (hpl : (backTo pos (starEach es X.env)).any (·.1) = false := by rfl) : DF G X W (.Call (.Name x p) (e :: es) [] pos) (eCall n fl [] os) :=
  call_f0 ha (fun _ => .nil) fun pa => pe_callSD R.ok (rm.mono hj) hg R.gl R.kp R.bd .nil (fun σ => passAt0) pa hdb he hpl
theorem df_callXDN (R : RdyXD X.prog X.w X.K X.mg X.base x k ps dvs (spF G n fl) f fd) (rm : Room j X.A) (hj : k ≤ j) (hg : Gl X x) (ha : DA G X W (e :: es) os) (hdb : (x == ("__debug__" : Str)) = false := by decide)
    (he : starEach (e :: es) X.env = (false, eval e X.env) :: starEach es X.env := by rfl) (hpl : (backTo pos (starEach es X.env)).any (·.1) = false := by rfl) : DF G X W (.Call (.Name x p) (e :: es) [] pos) (eCall n fl [] os) :=
  call_f0 ha (fun _ => .nil) fun pa => pe_callSD R.ok (rm.mono hj) hg R.gl R.kp R.bd .nil (fun σ => passAt0) pa hdb he hpl
theorem df_callXD1N (R : RdyXD X.prog X.w X.K X.mg X.base x k ps dvs (spF G n fl) f fd) (rm : Room j X.A) (hj : k ≤ j) (hg : Gl X x) (ha : DA G X W (e :: es) os) (rd : ∀ Hf, RpL G Hf dvs dfl) (hdb : (x == ("__debug__" : Str)) = false := by decide)
    (he : starEach (e :: es) X.env = (false, eval e X.env) :: starEach es X.env := by rfl) (hpl : (backTo pos (starEach es X.env)).any (·.1) = false := by rfl) : DF G X W (.Call (.Name x p) (e :: es) [] pos) (eCall n fl dfl os) := by
  obtain ⟨ds, hv, bd⟩ := R.bd1
  exact call_f0 ha rd fun pa => pe_callSD R.ok (rm.mono hj) hg R.gl R.kp bd hv (fun σ => passAt0) pa hdb he hpl
/-- repr in an except suite -/
theorem cd_reprU {G : Gx} {X : Cx} (gd : X.A.guards = some []) (hu : X.A.units + 66 < cLine) (hK : X.K = G.K := by rfl) : CallD G X (.builtin "repr") (op1 reprD) := by
  refine ⟨_, hK ▸ call_reprU gd hu, fun F σ H Hf ρ vs ds d Q R rs e0 q => ?_⟩
  obtain ⟨x, rfl, ee⟩ := op1_of e0
  obtain ⟨v, rfl, r⟩ := rs.one
  obtain ⟨⟨c1, c2, c3, c4, c5, c6⟩, rfl⟩ := ite_some' ee
  exact ⟨_, _, rfl, Rp.dp x (r.rp R.sub) c1, c2, c3, c4, c5, q _ H Hf R (Same.refl _) (.str c6)⟩
theorem un66 {k : Nat} {A : Around} (h : Room k A) : A.units + 66 < cLine := by have := h.un; omega
end
/-! ### a def that calls itself: so deep at most -/
theorem rec_zero {P : Program} {w : World} {K : PySem.W.Frag} {mg : Str → Option Value} {bh : Heap} {CX : CXT} {k n : Nat} {f : Addr} {fd : FuncData} {ps : List Str} {G : Gx} (h : n = ps.length) : FnOk P w K mg bh CX k f fd ps (spD G n fun _ => .bad) :=
  ⟨fun vs H Q E z => spQ_len h vs H Q E z, fun A outer s H args us vs Q E hr he hb hv z => by obtain ⟨_, _, _, _, _, po⟩ := z; exact po.elim⟩
/-! ### what the end wants -/
theorem ex_of {K : PySem.W.Frag} {cm : Str → Addr} {u : Value} {tb : List (Str × Bool)} (h : ∀ q ∈ tb, PySem.W.exmOne K (.ref (cm q.1)) u = some q.2) : ∀ C b, tb.lookup C = some b → PySem.W.exmOne K (.ref (cm C)) u = some b := by
  intro a b e
  induction tb with
  | nil => cases e
  | cons q r ih =>
    obtain ⟨x, y⟩ := q
    rw [List.lookup_cons] at e
    by_cases c : a = x
    · subst c
      simp only [beq_self_eq_true] at e
      cases e
      exact h _ List.mem_cons_self
    · have : (a == x) = false := by simpa using c
      rw [this] at e
      exact ih (fun q hq => h q (List.mem_cons_of_mem _ hq)) e
theorem xi_of {K : PySem.W.Frag} {cm : Str → Addr} {u : Value} {tb : List (Str × Bool)} (h : ∀ q ∈ tb, ExcC K (cm q.1) ∧ PySem.W.kitOne K (.ref (cm q.1)) u = some q.2) : XisF K cm u tb := by
  intro a b e
  induction tb with
  | nil => cases e
  | cons q r ih =>
    obtain ⟨x, y⟩ := q
    rw [List.lookup_cons] at e
    by_cases c : a = x
    · subst c
      simp only [beq_self_eq_true] at e
      cases e
      exact h _ List.mem_cons_self
    · have : (a == x) = false := by simpa using c
      rw [this] at e
      exact ih (fun q hq => h q (List.mem_cons_of_mem _ hq)) e
/-- keyword arguments of a def without defaults -/
theorem FunD.kbindsP {K : PySem.W.Frag} {x qual : Str} {params : Arguments} {body : List Stmt} {scope : Scope} {f : Addr} {fd : FuncData} {ps : List Str} (F : FunD K x qual params body scope [] [] f fd) (n : Nat) (ks : List Str) (g : {α : Type} → List α → List α → List α)
    (hrel : ∀ {vs zs : List V} {us ws : List Value}, Vals vs us → Vals zs ws → Vals (g vs zs) (g us ws))
    (h : ∀ (kV doc pm : Value) (an : Option Addr) (cdv ct : Value) (us ws : List Value), us.length = n → ws.length = ks.length → bindArgs (PySem.W.fnOf x qual params body scope .none kV doc pm an cdv ct) ⟨us, ks.zip ws⟩ = pure (ps.zip (g us ws))) : FillK K fd ps n ks (fun vs zs => g vs zs) := by
  obtain ⟨oc, od, dV, kV, doc, pm, an, cdv, ct, osl, rfl, lk, hcd, hD, hK⟩ := F.ex
  rcases hD with ⟨_, rfl⟩ | ⟨e, _⟩
  · exact ⟨fun us ws => g us ws, ⟨fun s us ws X l1 l2 => .of_eq (h kV doc pm an cdv ct us ws l1 l2), fun r1 r2 => hrel r1 r2⟩⟩
  · exact absurd rfl e
end Spk

namespace SpkX
open PySem PySem.W PySem.Calls PyProof.Rows
variable {prog : Program} {w : World} {A : Around} {E : Value → Shared → Prop} {K : W.Frag}
theorem asInt_ins {hh : Heap} {x dx C : Addr} {od : Obj} {M : Model} (I : W.InstAt hh x (W.instObj C dx) C (some od)) : W.Looks M hh (asInt? (.ref x)) none := by
  intro A Q E s k q
  have e0 := k _ _ I.at_
  unfold asInt?
  refine wpAny_bind ?_
  refine W.Looks.ld I.at_ _ _ _ _ k ?_
  exact wpAny_pure q
/-- int.__add__ leaves an instance to its class -/
theorem try_int_add {s : Shared} {x dx C : Addr} {od : Obj} {i : Int} {t : Tok} {Q : Option Value → Shared → Prop} (I : W.InstAt s.heap x (W.instObj C dx) C (some od)) (h : Q none s) :
    wpAny (model prog w) A (tryMethod (.int i t) "__add__" (.ref x)) Q E s := by
  unfold tryMethod
  refine wpAny_bind (wpAny_callSpecial?_slot (typeIs_int s i t) F.slot_int_add (wpAny_call_entry F.slot_int_add (typeIs_int s i t) F.entry_int_add ?_ (F.args_int_add_2 _ _)))
  have L0 : W.Looks (model prog w) s.heap (asInt? (.ref x)) none := asInt_ins I
  unfold Builtin.«int.__add__» Builtin.Int.intBinary
  refine wpAny_bind (wpAny_of_eq (a := ((Value.int i t : Value), [Value.ref x])) (by first | rfl | (simp only [slotArgs]; rfl)) ?_)
  dsimp only
  refine wpAny_bind (wpAny_of_eq (a := i) (by rfl) ?_)
  refine wpAny_bind (L0.here ?_)
  exact wpAny_bind (wpAny_rule (wpAny_pure ⟨_, rfl, wpAny_pure h⟩))
/-- i + x by x's own way -/
theorem bin_radd {s : Shared} {x dx f C : Addr} {od : Obj} {i : Int} {t : Tok} {cd : ClassData} {rc : Option Value} {Q : Value → Shared → Prop} (KI : K.In s.heap) (I : W.InstAt s.heap x (W.instObj C dx) C (some od)) (hd : W.clsIn K C = some cd) (hmd : cd.mro = [.ref C, .type "object"])
    (h1 : W.findIn K (.ref C) "__radd__" = some (some (.ref f))) (h2 : W.findIn K (.ref C) "__add__" = some rc) (hp : rc = none ∨ ∃ g : Addr, rc = some (.ref g)) (hf : W.isFn K (.ref f) = true)
    (o1 : W.findIn K (.type "object") "__add__" = some none) (o2 : W.findIn K (.type "object") "__radd__" = some none) (hs : W.subIn K (.ref C) (.type "int") = some false)
    (go : wpAny (model prog w) A (call (.ref f) [.ref x, .int i t]) (W.CmpBack Q) E s) : wpAny (model prog w) A (binaryOp .Add (.int i t) (.ref x)) Q E s := by
  have one := W.ksp_try KI I h1 hf go
  have zero : ∀ Q : Option Value → Shared → Prop, Q none s → wpAny (model prog w) A (tryMethod (.int i t) "__add__" (.ref x)) Q E s := fun Q h => try_int_add I h
  obtain ⟨hh, g, d, tt, os⟩ := s
  have L1 : W.Looks (model prog w) hh (typeOf (.ref x)) (.ref C) := I.type
  have L3 : W.Looks (model prog w) hh (fillsNumberSlot (.type "int") "add") true := W.Looks.of_pure F.fills_int_add
  have L4 : W.Looks (model prog w) hh (fillsNumberSlot (.ref C) "add") true := by
    have z := fills_own (M := model prog w) (nm := "add") KI hd hmd h2 h1 hp (.inr ⟨_, rfl⟩) o1 o2
    simpa using z
  have L5 : W.Looks (model prog w) hh (isSubtype (.ref C) (.type "int")) false := W.looks_subIn KI hs
  have L7 : W.Looks (model prog w) hh (numberSlotInPython (.type "int") "add") false := W.Looks.of_pure rfl
  have hne : (Value.type "int" == Value.ref C) = false := Bool.eq_false_iff.mpr fun q => by cases beq_iff_eq.mp q
  show wpAny (model prog w) A (binaryOp .Add (.int i t) (.ref x)) Q E _
  simp only [binaryOp, Operator.info]
  refine wpAny_holding (wpAny_bind ?_)
  unfold binaryOp1
  refine wpAny_bind (wpAny_of_eq (a := Value.type "int") (by rfl) (wpAny_bind (L1.at (wpAny_bind (L3.at ?_)))))
  simp only [hne, Bool.false_eq_true, if_false]
  repeat ((fail_if_success (with_reducible show wpAny _ _ (tryMethod _ _ _) _ _ _)); lk)
  refine zero _ ?_
  repeat ((fail_if_success (with_reducible show wpAny _ _ (tryMethod _ _ _) _ _ _)); lk)
  refine wpAny_mono one (fun r s' hr' => ?_) fun _ _ e => e
  obtain ⟨v, rfl, hq⟩ := hr'
  repeat ((fail_if_success (with_reducible show wpAny _ _ (tryMethod _ _ _) _ _ _)); lk)
  exact hq
end SpkX
namespace Spk
open PySem PySem.Spec PyProof.Rows L2
section
variable {X : Cx} {CX : CXT} {k j : Nat} {f C : Addr} {sp : Sp} {E : L2.St → XK}
/-- i + x, x an instance -/
theorem ops_radd (F : FnR X.prog X.w X.K X.mg X.base CX k f sp) (rm : Room j X.A) (hj : k ≤ j) (hx : ∀ σ, PassesAt CX X σ (E σ)) (hD : TwoC X.K C) (hs : PySem.W.findIn X.K (.ref C) "__radd__" = some (some (.ref f))) (hf : PySem.W.isFn X.K (.ref f) = true)
    (hr : FnAt X.K C "__add__") (o1 : PySem.W.findIn X.K (.type "object") "__add__" = some none) (o2 : PySem.W.findIn X.K (.type "object") "__radd__" = some none) (hsub : PySem.W.subIn X.K (.ref C) (.type "int") = some false) :
    OpRs X (binaryOp .Add) (fun σ x y H Q => ∃ a dx fs i, x = .int i ∧ y = .ref a ∧ H a = some (.ins C dx fs) ∧ sp [y, x] H Q (E σ)) := by
  intro pins s σ H x y v u Q I rx ry h
  obtain ⟨a, dx, fs, i, rfl, rfl, ha, hsp⟩ := h
  have rx0 := rx
  have ry0 := ry
  obtain ⟨t, rfl⟩ := rx
  cases ry
  obtain ⟨mA, J, _⟩ := ins_get I.hok ha
  obtain ⟨od, J, _⟩ := J.look
  obtain ⟨rc, e1, e2⟩ := hr
  obtain ⟨cd, m3, m4⟩ := hD.mro
  exact SpkX.bin_radd I.kIn J m3 m4 hs e1 e2 hf o1 o2 hsub (run_back F rm hj (hx σ) I (vs := [V.ref a, V.int i]) (.cons ry0 (.cons rx0 .nil)) hsp)
end
def tJ (c : Str) (x y : D) : Bool := isI x && isIns c y
theorem tst_radd {G : Gx} {X : Cx} {c : Str} {k j : Nat} {f : Addr} {CX : CXT} {E : L2.St → XK} {sp : Sp} (F : FnR X.prog X.w X.K X.mg X.base CX k f sp) (rm : Room j X.A) (hj : k ≤ j) (hx : ∀ σ, PassesAt CX X σ (E σ)) (hD : TwoC X.K (G.cm c)) (hs : PySem.W.findIn X.K (.ref (G.cm c)) "__radd__" = some (some (.ref f))) (hf : PySem.W.isFn X.K (.ref f) = true)
    (hr : FnAt X.K (G.cm c) "__add__") (hsub : PySem.W.subIn X.K (.ref (G.cm c)) (.type "int") = some false)
    (o1 : PySem.W.findIn X.K (.type "object") "__add__" = some none := by decide +kernel) (o2 : PySem.W.findIn X.K (.type "object") "__radd__" = some none := by decide +kernel) : OpTest G X .Add (tJ c) true sp E := by
  refine ⟨_, ops_radd F rm hj hx hD hs hf hr o1 o2 hsub, fun Hf H σ x y v w Q r1 r2 s h hsp => ?_⟩
  obtain ⟨c1, c2⟩ := Bool.and_eq_true_iff.mp h
  obtain ⟨a, dx, fs, ea, ha⟩ := ins_of r2 c2
  obtain ⟨i, ei⟩ := isI_of r1 c1
  exact ⟨a, dx, fs, i, ei, ea, s _ _ ha, hsp⟩
end Spk

namespace SpkX
open PySem PySem.W PySem.Calls PyProof.Rows
section
variable {prog : Program} {w : World} {A : Around} {E : Value → Shared → Prop} {s : Shared}
/-! ### a, b = a list -/
theorem draw_list {it t : Addr} {items : Array Value} (hne : t ≠ it) : ∀ (n i : Nat) (s : Shared) (Q : List Value → Shared → Prop), s.heap.IsListIter it t i → s.heap.IsList t items → i + n ≤ items.size →
    (∀ h', h'.IsListIter it t (i + n) → Heap.SameBut it s.heap h' → Q ((items.toList.drop i).take n) { s with heap := h' }) → wpAny (model prog w) A (draw (.ref it) n) Q E s
  | 0, i, s, Q, hit, _, _, hQ => by
    show wpAny _ _ (pure []) Q E s
    exact wpAny_pure (by simpa using hQ s.heap hit (Heap.SameBut.refl ..))
  | n + 1, i, s, Q, hit, ht, hle, hQ => by
    have hlt : i < items.size := by omega
    show wpAny _ _ (pyNext (.ref it) >>= _) Q E s
    refine wpAny_bind (wpAny_pyNext_list_item hit ht (x := items[i]) (by simp [hlt]) fun h₁ hit₁ hs₁ => ?_)
    refine wpAny_bind (wpAny_holding (draw_list hne n (i + 1) _ _ hit₁ (ht.extBut hs₁.extBut hne) (by omega) fun h₂ hit₂ hs₂ => wpAny_pure ?_))
    have hd : items.toList.drop i = items[i] :: items.toList.drop (i + 1) := by simp [List.drop_eq_getElem_cons, hlt]
    have := hQ h₂ (by rw [show i + (n + 1) = i + 1 + n by omega]; exact hit₂) (hs₁.trans hs₂)
    rw [hd, List.take_succ_cons] at this
    exact this
theorem unpackItems_list {t : Addr} {items : Array Value} {Q : List Value → Shared → Prop} (hh : A.handled = none) (ht : s.heap.IsList t items)
    (hQ : ∀ h', Heap.ExtBut s.heap.objs.size s.heap h' → Q items.toList { s with heap := h' }) : wpAny (model prog w) A (unpackItems (.ref t) items.size none) Q E s := by
  have hlt : t ≠ s.heap.objs.size := by obtain ⟨o, ho, _⟩ := ht; exact Nat.ne_of_lt (Heap.lt_size ho)
  unfold unpackItems
  refine wpAny_bind ?_
  · unfold notIterableAtAll
    refine wpAny_bind (wpAny_specialOf ht.typeIs slot_list_iter.lookup ?_)
    refine wpAny_pure ?_
    simp only [Bool.false_eq_true, if_false]
    refine wpAny_bind (wpAny_holding (wpAny_pyIter_list ht ?_))
    refine wpAny_bind (wpAny_holding (draw_list hlt items.size 0 _ _ ⟨_, Heap.get?_push_size _ rfl, rfl, rfl⟩ (ht.push _) (by omega) fun h₁ hit₁ hs₁ => ?_))
    have hall : List.take items.size (List.drop 0 items.toList) = items.toList := by
      rw [List.drop_zero]; exact List.take_of_length_le (by simp)
    rw [hall]
    rw [if_neg (by simp)]
    have ht₁ : h₁.IsList t items := (ht.push _).extBut hs₁.extBut hlt
    refine wpAny_bind (wpAny_holding (wpAny_pyNext_list_end hh hit₁ ht₁ (by simp) fun h₂ he₂ => ?_))
    simp only [Option.isSome_none, Bool.false_eq_true, if_false]
    refine wpAny_pure (hQ h₂ fun b o hb e => he₂ b o hb (hs₁.extBut b o hb (Heap.get?_push_of_some _ e)))
theorem assign_list {env : Env} {elts : List Expr} {x1} {pos : Pos} {t : Addr} {items : Array Value} {Q : Unit → Shared → Prop} (hh : A.handled = none) (ht : s.heap.IsList t items)
    (hn : (assignEach elts env).length = items.size) (hstar : (assignEach elts env).findIdx? (·.1) = none)
    (h : ∀ h', Heap.ExtBut s.heap.objs.size s.heap h' → wpAny (model prog w) A (assignInOrder ((assignEach elts env).map (·.2)) items.toList) Q E { s with heap := h' }) :
    wpAny (model prog w) A (assign (.Tuple elts x1 pos) env (.ref t)) Q E s := by
  rw [assign_Tuple]
  refine wpAny_bind (wpAny_standAt ?_)
  unfold unpack
  rw [hn, hstar]
  exact wpAny_bind (wpAny_holding (unpackItems_list hh ht h))
end
end SpkX
namespace Spk
open PySem PySem.Spec PyProof.Rows L2
section
variable {X : Cx} {pos : Pos}
/-- (a, b, ..) = a tuple or a list of that length -/
def gSq (K : PySem.W.Frag) (n : Nat) (t : TGs) : TG := fun v σ H Q => gTup K n t v σ H Q ∨ ∃ a xs, v = .ref a ∧ SqL K H a xs ∧ xs.length = n ∧ t xs σ H Q
theorem pg_sq {es : List Expr} {k : Nat} {t : TGs} {n : Nat} (hc : X.calm = true) (h : PGs X es t)
    (hn : (assignEach es X.env).length = n := by rfl) (hst : (assignEach es X.env).findIdx? (·.1) = none := by rfl) : PG X (.Tuple es k pos) (gSq X.K n t) := by
  refine ⟨fun pins s σ H v u Q I r hw => ?_⟩
  rcases hw with hw | hw
  · exact (pg_tup hc h hn hst).run pins s σ H v u Q I r hw
  · obtain ⟨a, xs, e1, hq, hl, hw⟩ := hw
    subst e1
    cases r
    obtain ⟨its, rv, ⟨o, m, ho, hcl, _, hd⟩, hz⟩ := I.list hq
    refine SpkX.assign_list (I.ok.hd hc) ⟨o, ho, hcl, m, hd⟩ (by simp [hn, ← hl, rv.length]) hst fun h' hx => ?_
    have I1 : Inv X pins σ H { s with heap := h' } := I.kept (t' := s.toks) fun b o e => hx b o (Nat.ne_of_lt (Heap.lt_size e)) e
    exact h.run pins _ σ H xs _ Q I1 (by simpa using rv) hw
end
def gSqD (n : Nat) (gs : List D → PEnv → Option PEnv) : TGf := fun d ρ => match d with
  | .tup ds => if ds.length = n then gs ds ρ else none
  | .lst ds => if ds.length = n then gs ds ρ else none
  | _ => none
theorem dg_sq {G : Gx} {X : Cx} {es : List Expr} {pos : Pos} {k n : Nat} {idx : List Nat} {gs : List D → PEnv → Option PEnv} (hc : X.calm = true) (h : DGs G X es idx gs) (hK : X.K = G.K := by rfl) (hn : (assignEach es X.env).length = n := by rfl) (hst : (assignEach es X.env).findIdx? (·.1) = none := by rfl) : DG G X (.Tuple es k pos) idx (gSqD n gs) := by
  obtain ⟨t, p, q⟩ := h
  refine ⟨_, pg_sq hc p hn hst, fun F σ H Hf ρ ρ' v d Q R r eg k => ?_⟩
  cases d <;> simp only [gSqD] at eg <;> try cases eg
  · rename_i ds
    by_cases c : ds.length = n
    · rw [if_pos c] at eg
      obtain ⟨a, vs, rfl, ha, rl⟩ : ∃ a vs, v = .ref a ∧ Hf a = some (.lst vs) ∧ RpL G Hf vs ds := by cases r with | lst q r => exact ⟨_, _, rfl, q, r⟩
      exact .inr ⟨a, vs, rfl, SqL.hp (R.sub _ _ ha), by rw [rl.len]; exact c, q F σ H Hf ρ ρ' vs ds Q R rl eg k⟩
    · rw [if_neg c] at eg; cases eg
  · rename_i ds
    by_cases c : ds.length = n
    · rw [if_pos c] at eg
      obtain ⟨a, vs, rfl, ha, rl⟩ := rp_t r
      exact .inl ⟨a, vs, rfl, hK ▸ sameT R.sub ha, by rw [rl.len]; exact c, q F σ H Hf ρ ρ' vs ds Q R rl eg k⟩
    · rw [if_neg c] at eg; cases eg
end Spk

/-! the text of spanloops_k06_spans_shifted -/
namespace Spk
open PySem PySem.Spec PyProof.Rows L2
def topS (i : Nat) : Stmt := PySem.Challenge.pw_spanloops_k06_spans_shifted.main.body.getD i (.Pass ⟨0, 0, 0, 0⟩)
structure Blt (mg : Str → Option Value) : Prop where
  b_OverflowError : mg "OverflowError" = none
  b_abs : mg "abs" = none
  b_bool : mg "bool" = none
  b_int : mg "int" = none
  b_isinstance : mg "isinstance" = none
  b_len : mg "len" = none
  b_max : mg "max" = none
  b_min : mg "min" = none
  b_range : mg "range" = none
  b_repr : mg "repr" = none
  b_str : mg "str" = none
  b_tuple : mg "tuple" = none
structure Txt (K : PySem.W.Frag) (mg : Str → Option Value) : Prop where
  g_FIRST : ∃ t, mg "FIRST" = some (.int (-10000000000000000000000000000000) t)
  g_LAST : ∃ t, mg "LAST" = some (.int (10000000000000000000000000000000) t)
  g_FAR : ∃ t, mg "FAR" = some (.int (1000000000000000000000000000000) t)

def owC : List (Str × Bool) := [("Span", false)]
def tb_own : List (String × Bool) := [("int", false), ("tuple", false)]
abbrev sp_law := lawSp
def tb_int : List (String × Bool) := [("NoneType", false), ("bool", true), ("int", true), ("str", false), ("list", false), ("tuple", false)]
def tb_bool : List (String × Bool) := [("NoneType", false), ("bool", true), ("int", false), ("str", false), ("list", false), ("tuple", false)]
def tb_tuple : List (String × Bool) := [("NoneType", false), ("bool", false), ("int", false), ("str", false), ("list", false), ("tuple", true)]
def ow_Span : List (Str × Bool) := [("Span", true)]
def tbx_TooFar : List (Str × Bool) := [("BadEdge", false), ("BadSpan", false), ("TooFar", true)]
def tbxi_OverflowError : List (Str × Bool) := [("BadEdge", false), ("BadSpan", false), ("TooFar", true)]
structure Kits (K : PySem.W.Frag) (mg : Str → Option Value) (cm : Str → Addr) : Prop where
  k_int : KitF (Gx.mk K cm none) (.type "int") tb_int owC
  k_bool : KitF (Gx.mk K cm none) (.type "bool") tb_bool owC
  k_tuple : KitF (Gx.mk K cm none) (.type "tuple") tb_tuple owC
  k_Span : KitF (Gx.mk K cm none) (.ref (cm "Span")) tb_own ow_Span
  g_Span : mg "Span" = some (.ref (cm "Span"))
  cl_Span : Cls K (cm "Span")
  fo_Span_begin : FldOk (Gx.mk K cm none) ["Span"] "begin"
  fo_Span_end : FldOk (Gx.mk K cm none) ["Span"] "end"
  x_TooFar : ∀ C b, tbx_TooFar.lookup C = some b → PySem.W.exmOne K (.ref (cm C)) (.ref (cm "TooFar")) = some b
  xi_OverflowError : XisF K cm (.type "OverflowError") tbxi_OverflowError
  self_Span : PySem.W.selfFirst K (cm "Span") = true
  fat_Span___radd__ : FnAt K (cm "Span") "__radd__"
  ni_Span : PySem.W.subIn K (.ref (cm "Span")) (.type "int") = some false
  two_Span : TwoC K (cm "Span")
  fat_Span___add__ : FnAt K (cm "Span") "__add__"
  fat_Span___rsub__ : FnAt K (cm "Span") "__rsub__"
  nf_Span : NfF (Gx.mk K cm none) "Span" ["Span"]
  nil : True
end Spk
namespace Spk
open PySem PySem.Spec PyProof.Rows L2

local macro_rules | `(tactic| walk_at "ne") => `(tactic| first | assumption | exact Ne.symm (by assumption) | exact ne_of_none (by walk_at "hp") (by assumption) | exact Ne.symm (ne_of_none (by walk_at "hp") (by assumption)))
local macro_rules | `(tactic| walk_at "hp") => `(tactic| first | assumption | exact upd_same | (refine Eq.trans (upd_ne ?_) ?_; (focus walk_at "ne"); walk_at "hp"))
local macro_rules | `(tactic| walk_at "fact") => `(tactic| first | rfl | assumption | exact SqL.hp (by walk_at "hp") | exact SqT.hp (by walk_at "hp") | walk_at "hp" | exact Or.inl (SqL.hp (by walk_at "hp")) | exact Or.inr (SqT.hp (by walk_at "hp")) | omega | decide | exact Nat.le_of_ble_eq_true rfl | exact lgDiv (by omega) (by omega) | exact Or.inl ⟨by omega, by omega⟩ | exact Or.inr ⟨by omega, by omega⟩ | exact ⟨by omega, by omega⟩ | exact ⟨by omega, by omega, by omega⟩)
local macro_rules | `(tactic| walk_at "vc1") => `(tactic| first
  | (refine And.intro ?_ ?_; (focus walk_at "fact"))
  | refine iteF ?_
  | refine iteT ?_
  | refine ite2 (fun _ => ?_) (fun _ => ?_)
  | apply Exists.intro
  | (refine Or.inl ?_; apply Exists.intro; refine And.intro rfl ?_)
  | (refine Or.inr ?_; apply Exists.intro; refine And.intro rfl ?_))
local macro_rules | `(tactic| walk_at "vc") => `(tactic| repeat' (walk_at "vc1"))
/-! _law_bag -/
abbrev s_l_bag : Stmt := topS 20
abbrev sc_l_bag_N : List Str := ["_law_script", "_law_at", "_law_cell"]
theorem sc_l_bag : FnScope sc_l_bag_N ["_law_script", "_law_at"] (defScope s_l_bag) := ⟨rfl, rfl, rfl, by decide +kernel, rfl, by decide +kernel, by decide +kernel⟩
def t_l_bag_1 : SX :=
    (sSet 2 (eIf (bBl (eOp (op2 ltD) [(.ex (eVar 1)), (.ex (eOp (op1 lenD) [(.ex (eVar 0))]))])) (eOp (op2 ixD) [(.ex (eVar 0)), (.ex (eVar 1))]) (eC (.int 0))))
def t_l_bag_2 : SX :=
    (sRetF (fLst [(.ex (eIf (bBl (eOp (op2 geD) [(.ex (eOp (op1 absD) [(.ex (eVar 2))])), (.ex (eOp (op2 powD) [(.ex (eC (.int 10))), (.ex (eC (.int 18)))]))])) (eOp (op1 absD) [(.ex (eVar 2))]) (eC (.int 0)))), (.ex (eOp (op2 modD) [(.ex (eOp (op1 intD) [(.ex (eVar 2))])), (.ex (eC (.int 2305843009213693951)))])), (.ex (eOp (op2 addD) [(.ex (eOp (op2 mulD) [(.ex (eC (.int 6151))), (.ex (eVar 1))])), (.ex (eC (.int 389)))])), (.ex (eC (.int 0)))]))
def sem_l_bag : SX :=
    (sSeq t_l_bag_1
    t_l_bag_2)
def fn_l_bag : List Cell → Rs (List D) := fnN (fnBF 3 sem_l_bag)

section
variable {P : Program} {w : World} {K : PySem.W.Frag} {mg : Str → Option Value} {bh : Heap}
theorem ok_l_bag {f : Addr} {fd : FuncData} {cm : Str → Addr} (B : Blt mg) (T : Txt K mg) (KI : Kits K mg cm) (F : Fun K "_law_bag" "_law_bag" s_l_bag f fd) : FnOk P w K mg bh CX0 1 f fd ["_law_script", "_law_at"] (spF (Gx.mk K cm none) 2 fn_l_bag) := by
  refine F.ok sc_l_bag (spQ_len rfl) (fun cdv A outer s H vs Q E hr h => ?_)
  exact body_ofNF (G := (Gx.mk K cm none))
      (dss_cons (ds_set (i := 2) sc_l_bag.nd (de_ifExp (dt_cmp od_lt (de_var (i := 1)) (de_callB cd_len (by rfl) B.b_len (by decide +kernel) (da_cons (de_var (i := 0)) da_nil)) (nomark _)) (de_ix (de_var (i := 0)) (de_var (i := 1))) de_int))
      (dss_one (ds_retF (df_lst (da_cons (de_ifExp (dt_cmp od_ge (de_callB cd_abs (by rfl) B.b_abs (by decide +kernel) (da_cons (de_var (i := 2)) da_nil)) (de_bin od_pow de_int de_int) (nomark _)) (de_callB cd_abs (by rfl) B.b_abs (by decide +kernel) (da_cons (de_var (i := 2)) da_nil)) de_int) (da_cons (de_bin od_mod (de_callTy cd_int (by rfl) B.b_int (by decide +kernel) (da_cons (de_var (i := 2)) da_nil)) de_int) (da_cons (de_bin od_add (de_bin od_mul de_int (de_var (i := 1))) de_int) (da_cons de_int da_nil))))))))
      rfl h
end
/-! _law_take -/
abbrev s_l_take : Stmt := topS 21
abbrev sc_l_take_N : List Str := ["_law_bag_here", "_law_many", "_law_digit", "_law_mixed"]
theorem sc_l_take : FnScope sc_l_take_N ["_law_bag_here", "_law_many"] (defScope s_l_take) := ⟨rfl, rfl, rfl, by decide +kernel, rfl, by decide +kernel, by decide +kernel⟩
def t_l_take_1 : SX :=
    (sIf (bBl (eOp (op2 gtD) [(.ex (eOp (op2 ixD) [(.sl 0), (.ex (eC (.int 0)))])), (.ex (eC (.int 0)))]))
    (sSeq (sSet 2 (eOp (op2 modD) [(.ex (eOp (op1 intD) [(.ex (eOp (op2 ixD) [(.sl 0), (.ex (eC (.int 0)))]))])), (.ex (eVar 1))]))
    (sSeq (sPut 0 (eOp (op2 divD) [(.ex (eOp (op2 ixD) [(.sl 0), (.ex (eC (.int 0)))])), (.ex (eVar 1))]) (eC (.int 0)))
    (sRet (eVar 2))))
    sNil)
def t_l_take_2 : SX :=
    (sPut 0 (eOp (op2 addD) [(.ex (eOp (op2 ixD) [(.sl 0), (.ex (eC (.int 3)))])), (.ex (eC (.int 1)))]) (eC (.int 3)))
def t_l_take_3 : SX :=
    (sSet 3 (eOp (op2 modD) [(.ex (eOp (op1 intD) [(.ex (eOp (op2 powD) [(.ex (eOp (op2 addD) [(.ex (eOp (op2 addD) [(.ex (eOp (op2 ixD) [(.sl 0), (.ex (eC (.int 1)))])), (.ex (eOp (op2 mulD) [(.ex (eC (.int 7368787))), (.ex (eOp (op2 ixD) [(.sl 0), (.ex (eC (.int 3)))]))]))])), (.ex (eOp (op2 ixD) [(.sl 0), (.ex (eC (.int 2)))]))])), (.ex (eC (.int 2)))]))])), (.ex (eC (.int 2305843009213693921)))]))
def t_l_take_4 : SX :=
    (sSet 3 (eOp (op2 modD) [(.ex (eOp (op1 intD) [(.ex (eOp (op2 powD) [(.ex (eOp (op2 addD) [(.ex (eVar 3)), (.ex (eOp (op2 mulD) [(.ex (eC (.int 32452867))), (.ex (eOp (op2 ixD) [(.sl 0), (.ex (eC (.int 3)))]))]))])), (.ex (eC (.int 3)))]))])), (.ex (eC (.int 2305843009213693951)))]))
def t_l_take_5 : SX :=
    (sRet (eOp (op2 modD) [(.ex (eOp (op1 intD) [(.ex (eOp (op2 divD) [(.ex (eVar 3)), (.ex (eC (.int 4096)))]))])), (.ex (eVar 1))]))
def sem_l_take : SX :=
    (sSeq t_l_take_1
    (sSeq t_l_take_2
    (sSeq t_l_take_3
    (sSeq t_l_take_4
    t_l_take_5))))
def fn_l_take : List Cell → Rs D := fnN (fnB 4 sem_l_take)

section
variable {P : Program} {w : World} {K : PySem.W.Frag} {mg : Str → Option Value} {bh : Heap}
theorem ok_l_take {f : Addr} {fd : FuncData} {cm : Str → Addr} (B : Blt mg) (T : Txt K mg) (KI : Kits K mg cm) (F : Fun K "_law_take" "_law_take" s_l_take f fd) : FnOk P w K mg bh CX0 1 f fd ["_law_bag_here", "_law_many"] (spD (Gx.mk K cm none) 2 fn_l_take) := by
  refine F.ok sc_l_take (spQ_len rfl) (fun cdv A outer s H vs Q E hr h => ?_)
  exact body_ofN (G := (Gx.mk K cm none))
      (dss_cons (ds_if (dt_cmp od_gt (de_ix (do_sl (i := 0)) de_int) de_int (nomark _))
      (dss_cons (ds_set (i := 2) sc_l_take.nd (de_bin od_mod (de_callTy cd_int (by rfl) B.b_int (by decide +kernel) (da_cons (de_ix (do_sl (i := 0)) de_int) da_nil)) (de_var (i := 1))))
      (dss_cons (ds_put (i := 0) (de_bin od_div (de_ix (do_sl (i := 0)) de_int) (de_var (i := 1))) de_int)
      (dss_one (ds_ret (de_var (i := 2))))))
      dss_nil)
      (dss_cons (ds_put (i := 0) (de_bin od_add (de_ix (do_sl (i := 0)) de_int) de_int) de_int)
      (dss_cons (ds_set (i := 3) sc_l_take.nd (de_bin od_mod (de_callTy cd_int (by rfl) B.b_int (by decide +kernel) (da_cons (de_bin od_pow (de_bin od_add (de_bin od_add (de_ix (do_sl (i := 0)) de_int) (de_bin od_mul de_int (de_ix (do_sl (i := 0)) de_int))) (de_ix (do_sl (i := 0)) de_int)) de_int) da_nil)) de_int))
      (dss_cons (ds_set (i := 3) sc_l_take.nd (de_bin od_mod (de_callTy cd_int (by rfl) B.b_int (by decide +kernel) (da_cons (de_bin od_pow (de_bin od_add (de_var (i := 3)) (de_bin od_mul de_int (de_ix (do_sl (i := 0)) de_int))) de_int) da_nil)) de_int))
      (dss_one (ds_ret (de_bin od_mod (de_callTy cd_int (by rfl) B.b_int (by decide +kernel) (da_cons (de_bin od_div (de_var (i := 3)) de_int) da_nil)) (de_var (i := 1)))))))))
      rfl h
end
/-! _law_edge -/
abbrev s_l_edge : Stmt := topS 22
abbrev sc_l_edge_N : List Str := ["_law_bag_here", "_law_kind"]
theorem sc_l_edge : FnScope sc_l_edge_N ["_law_bag_here"] (defScope s_l_edge) := ⟨rfl, rfl, rfl, by decide +kernel, rfl, by decide +kernel, by decide +kernel⟩
def t_l_edge_1 : SX :=
    (sSet 1 (eCall 2 fn_l_take [] [(.sl 0), (.ex (eC (.int 8)))]))
def t_l_edge_2 : SX :=
    (sIf (bBl (eOp (op2 eqD) [(.ex (eVar 1)), (.ex (eC (.int 0)))]))
    (sRet (eOp (op2 subD) [(.ex (eCall 2 fn_l_take [] [(.sl 0), (.ex (eOp (op2 addD) [(.ex (eOp (op2 mulD) [(.ex (eC (.int 2))), (.ex (eOp (op2 powD) [(.ex (eC (.int 10))), (.ex (eC (.int 30)))]))])), (.ex (eC (.int 1)))]))])), (.ex (eOp (op2 powD) [(.ex (eC (.int 10))), (.ex (eC (.int 30)))]))]))
    sNil)
def t_l_edge_3 : SX :=
    (sIf (bBl (eOp (op2 eqD) [(.ex (eVar 1)), (.ex (eC (.int 1)))]))
    (sRet (eOp (op2 mulD) [(.ex (eOp (op2 subD) [(.ex (eOp (op2 powD) [(.ex (eC (.int 10))), (.ex (eC (.int 30)))])), (.ex (eCall 2 fn_l_take [] [(.sl 0), (.ex (eC (.int 3)))]))])), (.ex (eOp (op2 subD) [(.ex (eC (.int 1))), (.ex (eOp (op2 mulD) [(.ex (eC (.int 2))), (.ex (eCall 2 fn_l_take [] [(.sl 0), (.ex (eC (.int 2)))]))]))]))]))
    sNil)
def t_l_edge_4 : SX :=
    (sRet (eOp (op2 subD) [(.ex (eCall 2 fn_l_take [] [(.sl 0), (.ex (eC (.int 15)))])), (.ex (eC (.int 7)))]))
def sem_l_edge : SX :=
    (sSeq t_l_edge_1
    (sSeq t_l_edge_2
    (sSeq t_l_edge_3
    t_l_edge_4)))
def fn_l_edge : List Cell → Rs D := fnN (fnB 2 sem_l_edge)

section
variable {P : Program} {w : World} {K : PySem.W.Frag} {mg : Str → Option Value} {bh : Heap}
theorem ok_l_edge {f : Addr} {fd : FuncData} {cm : Str → Addr} {f_l_take : Addr} {fd_l_take : FuncData} (B : Blt mg) (T : Txt K mg) (KI : Kits K mg cm) (R_l_take : Rdy P w K mg bh "_law_take" 1 ["_law_bag_here", "_law_many"] (spD (Gx.mk K cm none) 2 fn_l_take) f_l_take fd_l_take) (F : Fun K "_law_edge" "_law_edge" s_l_edge f fd) : FnOk P w K mg bh CX0 2 f fd ["_law_bag_here"] (spD (Gx.mk K cm none) 1 fn_l_edge) := by
  refine F.ok sc_l_edge (spQ_len rfl) (fun cdv A outer s H vs Q E hr h => ?_)
  exact body_ofN (G := (Gx.mk K cm none))
      (dss_cons (ds_set (i := 1) sc_l_edge.nd (de_call R_l_take hr (by decide) (by rfl) (da_cons (do_sl (i := 0)) (da_cons de_int da_nil))))
      (dss_cons (ds_if (dt_cmp (od_eq hr.units) (de_var (i := 1)) de_int (nomark _))
      (dss_one (ds_ret (de_bin od_sub (de_call R_l_take hr (by decide) (by rfl) (da_cons (do_sl (i := 0)) (da_cons (de_bin od_add (de_bin od_mul de_int (de_bin od_pow de_int de_int)) de_int) da_nil))) (de_bin od_pow de_int de_int))))
      dss_nil)
      (dss_cons (ds_if (dt_cmp (od_eq hr.units) (de_var (i := 1)) de_int (nomark _))
      (dss_one (ds_ret (de_bin od_mul (de_bin od_sub (de_bin od_pow de_int de_int) (de_call R_l_take hr (by decide) (by rfl) (da_cons (do_sl (i := 0)) (da_cons de_int da_nil)))) (de_bin od_sub de_int (de_bin od_mul de_int (de_call R_l_take hr (by decide) (by rfl) (da_cons (do_sl (i := 0)) (da_cons de_int da_nil))))))))
      dss_nil)
      (dss_one (ds_ret (de_bin od_sub (de_call R_l_take hr (by decide) (by rfl) (da_cons (do_sl (i := 0)) (da_cons de_int da_nil))) de_int))))))
      rfl h
end
/-! _law_stretch -/
abbrev s_l_stretch : Stmt := topS 23
abbrev sc_l_stretch_N : List Str := ["_law_bag_here", "_law_one", "_law_other", "_law_begin", "_law_end", "_law_kind"]
theorem sc_l_stretch : FnScope sc_l_stretch_N ["_law_bag_here"] (defScope s_l_stretch) := ⟨rfl, rfl, rfl, by decide +kernel, rfl, by decide +kernel, by decide +kernel⟩
def t_l_stretch_1 : SX :=
    (sPar 1 2 [(.ex (eCall 1 fn_l_edge [] [(.sl 0)])), (.ex (eCall 1 fn_l_edge [] [(.sl 0)]))])
def t_l_stretch_2 : SX :=
    (sIf (bBl (eOp (op2 eqD) [(.ex (eCall 2 fn_l_take [] [(.sl 0), (.ex (eC (.int 6)))])), (.ex (eC (.int 0)))]))
    (sSet 2 (eVar 1))
    sNil)
def t_l_stretch_3 : SX :=
    (sPar 3 4 [(.ex (eOp (op2 minD) [(.ex (eVar 1)), (.ex (eVar 2))])), (.ex (eOp (op2 maxD) [(.ex (eVar 1)), (.ex (eVar 2))]))])
def t_l_stretch_4 : SX :=
    (sSet 5 (eCall 2 fn_l_take [] [(.sl 0), (.ex (eC (.int 16)))]))
def t_l_stretch_5 : SX :=
    (sIf (bOr (bBl (eOp (op2 eqD) [(.ex (eVar 5)), (.ex (eC (.int 1)))])) (bBl (eOp (op2 eqD) [(.ex (eVar 5)), (.ex (eC (.int 3)))])))
    (sSet 3 (eOp (op1 negD) [(.ex (eOp (op2 powD) [(.ex (eC (.int 10))), (.ex (eC (.int 31)))]))]))
    sNil)
def t_l_stretch_6 : SX :=
    (sIf (bOr (bBl (eOp (op2 eqD) [(.ex (eVar 5)), (.ex (eC (.int 2)))])) (bBl (eOp (op2 eqD) [(.ex (eVar 5)), (.ex (eC (.int 3)))])))
    (sSet 4 (eOp (op2 powD) [(.ex (eC (.int 10))), (.ex (eC (.int 31)))]))
    sNil)
def t_l_stretch_7 : SX :=
    (sRet (eTup [(.ex (eVar 3)), (.ex (eVar 4))]))
def sem_l_stretch : SX :=
    (sSeq t_l_stretch_1
    (sSeq t_l_stretch_2
    (sSeq t_l_stretch_3
    (sSeq t_l_stretch_4
    (sSeq t_l_stretch_5
    (sSeq t_l_stretch_6
    t_l_stretch_7))))))
def fn_l_stretch : List Cell → Rs D := fnN (fnB 6 sem_l_stretch)

section
variable {P : Program} {w : World} {K : PySem.W.Frag} {mg : Str → Option Value} {bh : Heap}
theorem ok_l_stretch {f : Addr} {fd : FuncData} {cm : Str → Addr} {f_l_take : Addr} {fd_l_take : FuncData} {f_l_edge : Addr} {fd_l_edge : FuncData} (B : Blt mg) (T : Txt K mg) (KI : Kits K mg cm) (R_l_take : Rdy P w K mg bh "_law_take" 1 ["_law_bag_here", "_law_many"] (spD (Gx.mk K cm none) 2 fn_l_take) f_l_take fd_l_take) (R_l_edge : Rdy P w K mg bh "_law_edge" 2 ["_law_bag_here"] (spD (Gx.mk K cm none) 1 fn_l_edge) f_l_edge fd_l_edge) (F : Fun K "_law_stretch" "_law_stretch" s_l_stretch f fd) : FnOk P w K mg bh CX0 3 f fd ["_law_bag_here"] (spD (Gx.mk K cm none) 1 fn_l_stretch) := by
  refine F.ok sc_l_stretch (spQ_len rfl) (fun cdv A outer s H vs Q E hr h => ?_)
  exact body_ofN (G := (Gx.mk K cm none))
      (dss_cons (ds_par (i := 1) (j := 2) sc_l_stretch.nd (da_cons (de_call R_l_edge hr (by decide) (by rfl) (da_cons (do_sl (i := 0)) da_nil)) (da_cons (de_call R_l_edge hr (by decide) (by rfl) (da_cons (do_sl (i := 0)) da_nil)) da_nil)))
      (dss_cons (ds_if (dt_cmp (od_eq hr.units) (de_call R_l_take hr (by decide) (by rfl) (da_cons (do_sl (i := 0)) (da_cons de_int da_nil))) de_int (nomark _))
      (dss_one (ds_set (i := 2) sc_l_stretch.nd (de_var (i := 1))))
      dss_nil)
      (dss_cons (ds_par (i := 3) (j := 4) sc_l_stretch.nd (da_cons (de_callB cd_min2 (by rfl) B.b_min (by decide +kernel) (da_cons (de_var (i := 1)) (da_cons (de_var (i := 2)) da_nil))) (da_cons (de_callB cd_max2 (by rfl) B.b_max (by decide +kernel) (da_cons (de_var (i := 1)) (da_cons (de_var (i := 2)) da_nil))) da_nil)))
      (dss_cons (ds_set (i := 5) sc_l_stretch.nd (de_call R_l_take hr (by decide) (by rfl) (da_cons (do_sl (i := 0)) (da_cons de_int da_nil))))
      (dss_cons (ds_if (DW.pt (dw_or (dt_cmp (od_eq hr.units) (de_var (i := 5)) de_int (nomark _)) (dw_or1 (dt_cmp (od_eq hr.units) (de_var (i := 5)) de_int (nomark _)))))
      (dss_one (ds_set (i := 3) sc_l_stretch.nd (de_un ud_neg (de_bin od_pow de_int de_int))))
      dss_nil)
      (dss_cons (ds_if (DW.pt (dw_or (dt_cmp (od_eq hr.units) (de_var (i := 5)) de_int (nomark _)) (dw_or1 (dt_cmp (od_eq hr.units) (de_var (i := 5)) de_int (nomark _)))))
      (dss_one (ds_set (i := 4) sc_l_stretch.nd (de_bin od_pow de_int de_int)))
      dss_nil)
      (dss_one (ds_ret (de_tup (da_cons (de_var (i := 3)) (da_cons (de_var (i := 4)) da_nil)))))))))))
      rfl h
end
/-! is_number -/
abbrev s_is_number : Stmt := topS 9
abbrev sc_is_number_N : List Str := ["value"]
theorem sc_is_number : FnScope sc_is_number_N ["value"] (defScope s_is_number) := ⟨rfl, rfl, rfl, by decide +kernel, rfl, by decide +kernel, by decide +kernel⟩
def t_is_number_1 : SX :=
    (sRet (eAnd (eIsi tb_int owC (.ex (eVar 0))) (eNot (.ex (eIsi tb_bool owC (.ex (eVar 0)))))))
def sem_is_number : SX :=
    t_is_number_1
def fn_is_number : List Cell → Rs D := fnN (fnB 1 sem_is_number)

section
variable {P : Program} {w : World} {K : PySem.W.Frag} {mg : Str → Option Value} {bh : Heap}
theorem ok_is_number {f : Addr} {fd : FuncData} {cm : Str → Addr} (B : Blt mg) (T : Txt K mg) (KI : Kits K mg cm) (F : Fun K "is_number" "is_number" s_is_number f fd) : FnOk P w K mg bh CX0 1 f fd ["value"] (spD (Gx.mk K cm none) 1 fn_is_number) := by
  refine F.ok sc_is_number (spQ_len rfl) (fun cdv A outer s H vs Q E hr h => ?_)
  exact body_ofN (G := (Gx.mk K cm none))
      (dss_one (ds_ret (de_and (de_isi (de_var (i := 0)) KI.k_int (.ty _) (pe_bltn (v := .ty "int") (by rfl) B.b_int (by decide +kernel) rfl) (by rfl) B.b_isinstance) (de_one (de_not (de_isi (de_var (i := 0)) KI.k_bool (.ty _) (pe_bltn (v := .ty "bool") (by rfl) B.b_bool (by decide +kernel) rfl) (by rfl) B.b_isinstance))))))
      rfl h
end
/-! is_edge -/
abbrev s_is_edge : Stmt := topS 10
abbrev sc_is_edge_N : List Str := ["value"]
theorem sc_is_edge : FnScope sc_is_edge_N ["value"] (defScope s_is_edge) := ⟨rfl, rfl, rfl, by decide +kernel, rfl, by decide +kernel, by decide +kernel⟩
def t_is_edge_1 : SX :=
    (sRet (eAnd (eCall 1 fn_is_number [] [(.ex (eVar 0))]) (eOr (eChain leD leD (eOp (op1 negD) [(.ex (eC (.int (1000000000000000000000000000000))))]) (eVar 0) (eC (.int (1000000000000000000000000000000)))) (eOp (op2 inD) [(.ex (eVar 0)), (.ex (eTup [(.ex (eC (.int (-10000000000000000000000000000000)))), (.ex (eC (.int (10000000000000000000000000000000))))]))]))))
def sem_is_edge : SX :=
    t_is_edge_1
def fn_is_edge : List Cell → Rs D := fnN (fnB 1 sem_is_edge)

section
variable {P : Program} {w : World} {K : PySem.W.Frag} {mg : Str → Option Value} {bh : Heap}
theorem ok_is_edge {f : Addr} {fd : FuncData} {cm : Str → Addr} {f_is_number : Addr} {fd_is_number : FuncData} (B : Blt mg) (T : Txt K mg) (KI : Kits K mg cm) (R_is_number : Rdy P w K mg bh "is_number" 1 ["value"] (spD (Gx.mk K cm none) 1 fn_is_number) f_is_number fd_is_number) (F : Fun K "is_edge" "is_edge" s_is_edge f fd) : FnOk P w K mg bh CX0 2 f fd ["value"] (spD (Gx.mk K cm none) 1 fn_is_edge) := by
  refine F.ok sc_is_edge (spQ_len rfl) (fun cdv A outer s H vs Q E hr h => ?_)
  exact body_ofN (G := (Gx.mk K cm none))
      (dss_one (ds_ret (de_and (de_call R_is_number hr (by decide) (by rfl) (da_cons (de_var (i := 0)) da_nil)) (de_one (de_or (de_chain od_le od_le (de_un ud_neg (de_glI T.g_FAR (by rfl))) (de_var (i := 0)) (de_glI T.g_FAR (by rfl))) (de_one (de_cmp (od_in (un65 hr)) (de_var (i := 0)) (de_tup (da_cons (de_glI T.g_FIRST (by rfl)) (da_cons (de_glI T.g_LAST (by rfl)) da_nil))) (by rfl))))))))
      rfl h
end
/-! is_pair -/
abbrev s_is_pair : Stmt := topS 12
abbrev sc_is_pair_N : List Str := ["value"]
theorem sc_is_pair : FnScope sc_is_pair_N ["value"] (defScope s_is_pair) := ⟨rfl, rfl, rfl, by decide +kernel, rfl, by decide +kernel, by decide +kernel⟩
def t_is_pair_1 : SX :=
    (sRet (eAnd (eIsi tb_tuple owC (.ex (eVar 0))) (eAnd (eOp (op2 eqD) [(.ex (eOp (op1 lenD) [(.ex (eVar 0))])), (.ex (eC (.int 2)))]) (eAnd (eCall 1 fn_is_edge [] [(.ex (eOp (op2 ixD) [(.ex (eVar 0)), (.ex (eC (.int 0)))]))]) (eCall 1 fn_is_edge [] [(.ex (eOp (op2 ixD) [(.ex (eVar 0)), (.ex (eC (.int 1)))]))])))))
def sem_is_pair : SX :=
    t_is_pair_1
def fn_is_pair : List Cell → Rs D := fnN (fnB 1 sem_is_pair)

section
variable {P : Program} {w : World} {K : PySem.W.Frag} {mg : Str → Option Value} {bh : Heap}
theorem ok_is_pair {f : Addr} {fd : FuncData} {cm : Str → Addr} {f_is_edge : Addr} {fd_is_edge : FuncData} (B : Blt mg) (T : Txt K mg) (KI : Kits K mg cm) (R_is_edge : Rdy P w K mg bh "is_edge" 2 ["value"] (spD (Gx.mk K cm none) 1 fn_is_edge) f_is_edge fd_is_edge) (F : Fun K "is_pair" "is_pair" s_is_pair f fd) : FnOk P w K mg bh CX0 3 f fd ["value"] (spD (Gx.mk K cm none) 1 fn_is_pair) := by
  refine F.ok sc_is_pair (spQ_len rfl) (fun cdv A outer s H vs Q E hr h => ?_)
  exact body_ofN (G := (Gx.mk K cm none))
      (dss_one (ds_ret (de_and (de_isi (de_var (i := 0)) KI.k_tuple (.ty _) (pe_bltn (v := .ty "tuple") (by rfl) B.b_tuple (by decide +kernel) rfl) (by rfl) B.b_isinstance) (de_and (de_cmp (od_eq hr.units) (de_callB cd_len (by rfl) B.b_len (by decide +kernel) (da_cons (de_var (i := 0)) da_nil)) de_int (nomark _)) (de_and (de_call R_is_edge hr (by decide) (by rfl) (da_cons (de_ix (de_var (i := 0)) de_int) da_nil)) (de_one (de_call R_is_edge hr (by decide) (by rfl) (da_cons (de_ix (de_var (i := 0)) de_int) da_nil))))))))
      rfl h
end
/-! is_stretch -/
abbrev s_is_stretch : Stmt := topS 13
abbrev sc_is_stretch_N : List Str := ["value"]
theorem sc_is_stretch : FnScope sc_is_stretch_N ["value"] (defScope s_is_stretch) := ⟨rfl, rfl, rfl, by decide +kernel, rfl, by decide +kernel, by decide +kernel⟩
def t_is_stretch_1 : SX :=
    (sRet (eAnd (eCall 1 fn_is_pair [] [(.ex (eVar 0))]) (eAnd (eOp (op2 leD) [(.ex (eOp (op2 ixD) [(.ex (eVar 0)), (.ex (eC (.int 0)))])), (.ex (eOp (op2 ixD) [(.ex (eVar 0)), (.ex (eC (.int 1)))]))]) (eAnd (eOp (op2 ltD) [(.ex (eOp (op2 ixD) [(.ex (eVar 0)), (.ex (eC (.int 0)))])), (.ex (eC (.int (10000000000000000000000000000000))))]) (eOp (op2 gtD) [(.ex (eOp (op2 ixD) [(.ex (eVar 0)), (.ex (eC (.int 1)))])), (.ex (eC (.int (-10000000000000000000000000000000))))])))))
def sem_is_stretch : SX :=
    t_is_stretch_1
def fn_is_stretch : List Cell → Rs D := fnN (fnB 1 sem_is_stretch)

section
variable {P : Program} {w : World} {K : PySem.W.Frag} {mg : Str → Option Value} {bh : Heap}
theorem ok_is_stretch {f : Addr} {fd : FuncData} {cm : Str → Addr} {f_is_pair : Addr} {fd_is_pair : FuncData} (B : Blt mg) (T : Txt K mg) (KI : Kits K mg cm) (R_is_pair : Rdy P w K mg bh "is_pair" 3 ["value"] (spD (Gx.mk K cm none) 1 fn_is_pair) f_is_pair fd_is_pair) (F : Fun K "is_stretch" "is_stretch" s_is_stretch f fd) : FnOk P w K mg bh CX0 4 f fd ["value"] (spD (Gx.mk K cm none) 1 fn_is_stretch) := by
  refine F.ok sc_is_stretch (spQ_len rfl) (fun cdv A outer s H vs Q E hr h => ?_)
  exact body_ofN (G := (Gx.mk K cm none))
      (dss_one (ds_ret (de_and (de_call R_is_pair hr (by decide) (by rfl) (da_cons (de_var (i := 0)) da_nil)) (de_and (de_cmp od_le (de_ix (de_var (i := 0)) de_int) (de_ix (de_var (i := 0)) de_int) (nomark _)) (de_and (de_cmp od_lt (de_ix (de_var (i := 0)) de_int) (de_glI T.g_LAST (by rfl)) (nomark _)) (de_one (de_cmp od_gt (de_ix (de_var (i := 0)) de_int) (de_glI T.g_FIRST (by rfl)) (nomark _))))))))
      rfl h
end
/-! Span.__init__ -/
abbrev s_Span_init : Stmt := inClass (topS 18) 0
abbrev sc_Span_init_N : List Str := ["self", "begin", "end"]
theorem sc_Span_init : FnScope sc_Span_init_N ["self", "begin", "end"] (defScope s_Span_init) := ⟨rfl, rfl, rfl, by decide +kernel, rfl, by decide +kernel, by decide +kernel⟩
def t_Span_init_1 : SX :=
    (sIf (bNot (bTru (.ex (eCall 1 fn_is_edge [] [(.ex (eVar 1))]))))
    (sRaiseB "BadEdge" "edge" (eVar 1))
    sNil)
def t_Span_init_2 : SX :=
    (sIf (bNot (bTru (.ex (eCall 1 fn_is_edge [] [(.ex (eVar 2))]))))
    (sRaiseB "BadEdge" "edge" (eVar 2))
    sNil)
def t_Span_init_3 : SX :=
    (sIf (bNot (bTru (.ex (eCall 1 fn_is_stretch [] [(.ex (eTup [(.ex (eVar 1)), (.ex (eVar 2))]))]))))
    (sRaiseB "BadSpan" "span" (eTup [(.ex (eVar 1)), (.ex (eVar 2))]))
    sNil)
def t_Span_init_4 : SX :=
    (sFldS "Span" "begin" 0 (eVar 1))
def t_Span_init_5 : SX :=
    (sFldS "Span" "end" 0 (eVar 2))
def sem_Span_init : SX :=
    (sSeq t_Span_init_1
    (sSeq t_Span_init_2
    (sSeq t_Span_init_3
    (sSeq t_Span_init_4
    t_Span_init_5))))
def fn_Span_init : List Cell → Rs D := (fnB 3 sem_Span_init)

section
variable {P : Program} {w : World} {K : PySem.W.Frag} {mg : Str → Option Value} {bh : Heap}
theorem ok_Span_init {f : Addr} {fd : FuncData} {cm : Str → Addr} {fI_BadEdge : Addr} {fdE_BadEdge : FuncData} {fI_BadSpan : Addr} {fdE_BadSpan : FuncData} {f_is_edge : Addr} {fd_is_edge : FuncData} {f_is_stretch : Addr} {fd_is_stretch : FuncData} (B : Blt mg) (T : Txt K mg) (KI : Kits K mg cm) (E_BadEdge : ErrB P w K mg bh "BadEdge" "edge" (cm "BadEdge") fI_BadEdge fdE_BadEdge) (E_BadSpan : ErrB P w K mg bh "BadSpan" "span" (cm "BadSpan") fI_BadSpan fdE_BadSpan) (R_is_edge : Rdy P w K mg bh "is_edge" 2 ["value"] (spD (Gx.mk K cm none) 1 fn_is_edge) f_is_edge fd_is_edge) (R_is_stretch : Rdy P w K mg bh "is_stretch" 4 ["value"] (spD (Gx.mk K cm none) 1 fn_is_stretch) f_is_stretch fd_is_stretch) (F : FunD K "__init__" "Span.__init__" (defArgs s_Span_init) (defBody s_Span_init) (defScope s_Span_init) [] [] f fd) : FnOk P w K mg bh (L2.CX P w) 5 f fd ["self", "begin", "end"] (spD (Gx.mk K cm none) 3 fn_Span_init) := by
  refine F.ok sc_Span_init (spQ_len rfl) (fun cdv A outer s H vs Q E hr h => ?_)
  exact body_of (G := (Gx.mk K cm none)) (W := fun c d _ H => E c d H)
      (dss_cons (ds_if (dt_not (dt_tru (de_call R_is_edge hr (by decide) (by rfl) (da_cons (de_var (i := 1)) da_nil))))
      (dss_one (ds_raiseB (c := "BadEdge") rfl E_BadEdge hr (by decide) (takes_of rfl rfl rfl rfl) (by rfl) (de_var (i := 1))))
      dss_nil)
      (dss_cons (ds_if (dt_not (dt_tru (de_call R_is_edge hr (by decide) (by rfl) (da_cons (de_var (i := 2)) da_nil))))
      (dss_one (ds_raiseB (c := "BadEdge") rfl E_BadEdge hr (by decide) (takes_of rfl rfl rfl rfl) (by rfl) (de_var (i := 2))))
      dss_nil)
      (dss_cons (ds_if (dt_not (dt_tru (de_call R_is_stretch hr (by decide) (by rfl) (da_cons (de_tup (da_cons (de_var (i := 1)) (da_cons (de_var (i := 2)) da_nil))) da_nil))))
      (dss_one (ds_raiseB (c := "BadSpan") rfl E_BadSpan hr (by decide) (takes_of rfl rfl rfl rfl) (by rfl) (de_tup (da_cons (de_var (i := 1)) (da_cons (de_var (i := 2)) da_nil)))))
      dss_nil)
      (dss_cons (ds_fld (C := "Span") (i := 0) (de_var (i := 1)) KI.fo_Span_begin)
      (dss_one (ds_fld (C := "Span") (i := 0) (de_var (i := 2)) KI.fo_Span_end))))))
      rfl (fun _ _ _ _ z => z) h
end
/-! _law_shift -/
abbrev s_l_shift : Stmt := topS 24
abbrev sc_l_shift_N : List Str := ["_law_bag_here", "_law_pair", "_law_kind", "_law_edge_here", "_law_near"]
theorem sc_l_shift : FnScope sc_l_shift_N ["_law_bag_here", "_law_pair"] (defScope s_l_shift) := ⟨rfl, rfl, rfl, by decide +kernel, rfl, by decide +kernel, by decide +kernel⟩
def t_l_shift_1 : SX :=
    (sSet 2 (eCall 2 fn_l_take [] [(.sl 0), (.ex (eC (.int 5)))]))
def t_l_shift_2 : SX :=
    (sIf (bBl (eOp (op2 eqD) [(.ex (eVar 2)), (.ex (eC (.int 0)))]))
    (sRet (eOp (op2 subD) [(.ex (eCall 2 fn_l_take [] [(.sl 0), (.ex (eOp (op2 addD) [(.ex (eOp (op2 mulD) [(.ex (eC (.int 4))), (.ex (eOp (op2 powD) [(.ex (eC (.int 10))), (.ex (eC (.int 30)))]))])), (.ex (eC (.int 1)))]))])), (.ex (eOp (op2 mulD) [(.ex (eC (.int 2))), (.ex (eOp (op2 powD) [(.ex (eC (.int 10))), (.ex (eC (.int 30)))]))]))]))
    sNil)
def t_l_shift_3 : SX :=
    (sIf (bBl (eOp (op2 ltD) [(.ex (eVar 2)), (.ex (eC (.int 3)))]))
    (sSeq (sSet 3 (eOp (op2 ixD) [(.ex (eVar 1)), (.ex (eCall 2 fn_l_take [] [(.sl 0), (.ex (eC (.int 2)))]))]))
    (sSeq (sSet 4 (eIf (bBl (eOp (op2 leD) [(.ex (eOp (op1 absD) [(.ex (eVar 3))])), (.ex (eOp (op2 powD) [(.ex (eC (.int 10))), (.ex (eC (.int 30)))]))])) (eVar 3) (eC (.int 0))))
    (sRet (eOp (op2 subD) [(.ex (eOp (op2 mulD) [(.ex (eOp (op2 addD) [(.ex (eOp (op2 powD) [(.ex (eC (.int 10))), (.ex (eC (.int 30)))])), (.ex (eCall 2 fn_l_take [] [(.sl 0), (.ex (eC (.int 2)))]))])), (.ex (eOp (op2 subD) [(.ex (eC (.int 1))), (.ex (eOp (op2 mulD) [(.ex (eC (.int 2))), (.ex (eCall 2 fn_l_take [] [(.sl 0), (.ex (eC (.int 2)))]))]))]))])), (.ex (eVar 4))]))))
    sNil)
def t_l_shift_4 : SX :=
    (sRet (eOp (op2 subD) [(.ex (eCall 2 fn_l_take [] [(.sl 0), (.ex (eC (.int 21)))])), (.ex (eC (.int 10)))]))
def sem_l_shift : SX :=
    (sSeq t_l_shift_1
    (sSeq t_l_shift_2
    (sSeq t_l_shift_3
    t_l_shift_4)))
def fn_l_shift : List Cell → Rs D := fnN (fnB 5 sem_l_shift)

section
variable {P : Program} {w : World} {K : PySem.W.Frag} {mg : Str → Option Value} {bh : Heap}
theorem ok_l_shift {f : Addr} {fd : FuncData} {cm : Str → Addr} {f_l_take : Addr} {fd_l_take : FuncData} (B : Blt mg) (T : Txt K mg) (KI : Kits K mg cm) (R_l_take : Rdy P w K mg bh "_law_take" 1 ["_law_bag_here", "_law_many"] (spD (Gx.mk K cm none) 2 fn_l_take) f_l_take fd_l_take) (F : Fun K "_law_shift" "_law_shift" s_l_shift f fd) : FnOk P w K mg bh CX0 2 f fd ["_law_bag_here", "_law_pair"] (spD (Gx.mk K cm none) 2 fn_l_shift) := by
  refine F.ok sc_l_shift (spQ_len rfl) (fun cdv A outer s H vs Q E hr h => ?_)
  exact body_ofN (G := (Gx.mk K cm none))
      (dss_cons (ds_set (i := 2) sc_l_shift.nd (de_call R_l_take hr (by decide) (by rfl) (da_cons (do_sl (i := 0)) (da_cons de_int da_nil))))
      (dss_cons (ds_if (dt_cmp (od_eq hr.units) (de_var (i := 2)) de_int (nomark _))
      (dss_one (ds_ret (de_bin od_sub (de_call R_l_take hr (by decide) (by rfl) (da_cons (do_sl (i := 0)) (da_cons (de_bin od_add (de_bin od_mul de_int (de_bin od_pow de_int de_int)) de_int) da_nil))) (de_bin od_mul de_int (de_bin od_pow de_int de_int)))))
      dss_nil)
      (dss_cons (ds_if (dt_cmp od_lt (de_var (i := 2)) de_int (nomark _))
      (dss_cons (ds_set (i := 3) sc_l_shift.nd (de_ix (de_var (i := 1)) (de_call R_l_take hr (by decide) (by rfl) (da_cons (do_sl (i := 0)) (da_cons de_int da_nil)))))
      (dss_cons (ds_set (i := 4) sc_l_shift.nd (de_ifExp (dt_cmp od_le (de_callB cd_abs (by rfl) B.b_abs (by decide +kernel) (da_cons (de_var (i := 3)) da_nil)) (de_bin od_pow de_int de_int) (nomark _)) (de_var (i := 3)) de_int))
      (dss_one (ds_ret (de_bin od_sub (de_bin od_mul (de_bin od_add (de_bin od_pow de_int de_int) (de_call R_l_take hr (by decide) (by rfl) (da_cons (do_sl (i := 0)) (da_cons de_int da_nil)))) (de_bin od_sub de_int (de_bin od_mul de_int (de_call R_l_take hr (by decide) (by rfl) (da_cons (do_sl (i := 0)) (da_cons de_int da_nil)))))) (de_var (i := 4)))))))
      dss_nil)
      (dss_one (ds_ret (de_bin od_sub (de_call R_l_take hr (by decide) (by rfl) (da_cons (do_sl (i := 0)) (da_cons de_int da_nil))) de_int))))))
      rfl h
end
/-! _law_due -/
abbrev s_l_due : Stmt := topS 25
abbrev sc_l_due_N : List Str := ["_law_pair", "_law_k", "_law_there", "_law_edge_here"]
theorem sc_l_due : FnScope sc_l_due_N ["_law_pair", "_law_k"] (defScope s_l_due) := ⟨rfl, rfl, rfl, by decide +kernel, rfl, by decide +kernel, by decide +kernel⟩
def t_l_due_1 : SX :=
    (sOwn 2 (fLst []))
def t_l_due_2 : SX :=
    (sIf (bBl (eOp (op2 eqD) [(.ex (eOp (op1 absD) [(.ex (eVar 3))])), (.ex (eOp (op2 powD) [(.ex (eC (.int 10))), (.ex (eC (.int 31)))]))]))
    (sMut 2 (sApp 2 (eVar 3)))
    (sIf (bBl (eOp (op2 gtD) [(.ex (eOp (op1 absD) [(.ex (eOp (op2 addD) [(.ex (eVar 3)), (.ex (eVar 1))]))])), (.ex (eOp (op2 powD) [(.ex (eC (.int 10))), (.ex (eC (.int 30)))]))]))
    (sRet (eTup [(.ex (eC (.str "far"))), (.ex (eOp (op1 reprD) [(.ex (eOp (op2 addD) [(.ex (eVar 3)), (.ex (eVar 1))]))]))]))
    (sMut 2 (sApp 2 (eOp (op2 addD) [(.ex (eVar 3)), (.ex (eVar 1))])))))
def b_l_due_1 : SX :=
    t_l_due_2
def t_l_due_3 : SX :=
    (sFor (fSeq (eVar 0)) (gSet 3)
    b_l_due_1)
def t_l_due_4 : SX :=
    (sRet (eTup [(.ex (eC (.str "made"))), (.ex (eOp (op1 reprD) [(.ex (eOp (op1 tupD) [(.sl 2)]))]))]))
def sem_l_due : SX :=
    (sSeq t_l_due_1
    (sSeq t_l_due_3
    t_l_due_4))
def fn_l_due : List Cell → Rs D := fnN (fnB 4 sem_l_due)

section
variable {P : Program} {w : World} {K : PySem.W.Frag} {mg : Str → Option Value} {bh : Heap}
theorem ok_l_due {f : Addr} {fd : FuncData} {cm : Str → Addr} (B : Blt mg) (T : Txt K mg) (KI : Kits K mg cm) (F : Fun K "_law_due" "_law_due" s_l_due f fd) : FnG P w K mg bh 1 f fd ["_law_pair", "_law_k"] (spD (Gx.mk K cm none) 2 fn_l_due) := by
  refine Fun.okG F sc_l_due (spQ_len rfl) (fun cdv A outer s H vs Q E gd hr h => ?_)
  exact body_ofN (G := (Gx.mk K cm none))
      (dss_cons (ds_own (i := 2) sc_l_due.nd (df_lst da_nil))
      (dss_cons (ds_for (di_seq (de_var (i := 0))) (dg_name sc_l_due.nd (i := 3))
      (dss_one (ds_if (dt_cmp (od_eq hr.units) (de_callB cd_abs (by rfl) B.b_abs (by decide +kernel) (da_cons (de_var (i := 3)) da_nil)) (de_bin od_pow de_int de_int) (nomark _))
      (dss_one (ds_app (i := 2) (de_var (i := 3))))
      (dss_one (ds_if (dt_cmp od_gt (de_callB cd_abs (by rfl) B.b_abs (by decide +kernel) (da_cons (de_bin od_add (de_var (i := 3)) (de_var (i := 1))) da_nil)) (de_bin od_pow de_int de_int) (nomark _))
      (dss_one (ds_ret (de_tup (da_cons (de_str (by decide +kernel)) (da_cons (de_callB (cd_repr gd hr) (by rfl) B.b_repr (by decide +kernel) (da_cons (de_bin od_add (de_var (i := 3)) (de_var (i := 1))) da_nil)) da_nil)))))
      (dss_one (ds_app (i := 2) (de_bin od_add (de_var (i := 3)) (de_var (i := 1))))))))) PassesOwn.never)
      (dss_one (ds_ret (de_tup (da_cons (de_str (by decide +kernel)) (da_cons (de_callB (cd_repr gd hr) (by rfl) B.b_repr (by decide +kernel) (da_cons (de_callTy cd_tup (by rfl) B.b_tuple (by decide +kernel) (da_cons (do_sl (i := 2)) da_nil)) da_nil)) da_nil)))))))
      rfl h
end
/-! Span.pair -/
abbrev s_Span_pair : Stmt := inClass (topS 18) 4
abbrev sc_Span_pair_N : List Str := ["self"]
theorem sc_Span_pair : FnScope sc_Span_pair_N ["self"] (defScope s_Span_pair) := ⟨rfl, rfl, rfl, by decide +kernel, rfl, by decide +kernel, by decide +kernel⟩
def t_Span_pair_1 : SX :=
    (sRet (eTup [(.ex (eFld ["Span"] "begin" (eVar 0))), (.ex (eFld ["Span"] "end" (eVar 0)))]))
def sem_Span_pair : SX :=
    t_Span_pair_1
def fn_Span_pair : List Cell → Rs D := fnN (fnB 1 sem_Span_pair)

section
variable {P : Program} {w : World} {K : PySem.W.Frag} {mg : Str → Option Value} {bh : Heap}
theorem ok_Span_pair {f : Addr} {fd : FuncData} {cm : Str → Addr} (B : Blt mg) (T : Txt K mg) (KI : Kits K mg cm) (F : Fun K "pair" "Span.pair" s_Span_pair f fd) : FnOk P w K mg bh CX0 1 f fd ["self"] (spD (Gx.mk K cm none) 1 fn_Span_pair) := by
  refine F.ok sc_Span_pair (spQ_len rfl) (fun cdv A outer s H vs Q E hr h => ?_)
  exact body_ofN (G := (Gx.mk K cm none))
      (dss_one (ds_ret (de_tup (da_cons (de_fld (Cs := ["Span"]) (de_var (i := 0)) KI.fo_Span_begin) (da_cons (de_fld (Cs := ["Span"]) (de_var (i := 0)) KI.fo_Span_end) da_nil)))))
      rfl h
end
/-! shifted_edge -/
abbrev s_shifted_edge : Stmt := topS 14
abbrev sc_shifted_edge_N : List Str := ["edge", "k", "moved"]
theorem sc_shifted_edge : FnScope sc_shifted_edge_N ["edge", "k"] (defScope s_shifted_edge) := ⟨rfl, rfl, rfl, by decide +kernel, rfl, by decide +kernel, by decide +kernel⟩
def t_shifted_edge_1 : SX :=
    (sIf (bBl (eOp (op2 inD) [(.ex (eVar 0)), (.ex (eTup [(.ex (eC (.int (-10000000000000000000000000000000)))), (.ex (eC (.int (10000000000000000000000000000000))))]))]))
    (sRet (eVar 0))
    sNil)
def t_shifted_edge_2 : SX :=
    (sSet 2 (eOp (op2 addD) [(.ex (eVar 0)), (.ex (eVar 1))]))
def t_shifted_edge_3 : SX :=
    (sIf (bNot (bBl (eChain leD leD (eOp (op1 negD) [(.ex (eC (.int (1000000000000000000000000000000))))]) (eVar 2) (eC (.int (1000000000000000000000000000000))))))
    (sRaiseB "TooFar" "edge" (eVar 2))
    sNil)
def t_shifted_edge_4 : SX :=
    (sRet (eVar 2))
def sem_shifted_edge : SX :=
    (sSeq t_shifted_edge_1
    (sSeq t_shifted_edge_2
    (sSeq t_shifted_edge_3
    t_shifted_edge_4)))
def fn_shifted_edge : List Cell → Rs D := (fnB 3 sem_shifted_edge)

section
variable {P : Program} {w : World} {K : PySem.W.Frag} {mg : Str → Option Value} {bh : Heap}
theorem ok_shifted_edge {f : Addr} {fd : FuncData} {cm : Str → Addr} {fI_TooFar : Addr} {fdE_TooFar : FuncData} (B : Blt mg) (T : Txt K mg) (KI : Kits K mg cm) (E_TooFar : ErrB P w K mg bh "TooFar" "edge" (cm "TooFar") fI_TooFar fdE_TooFar) (F : Fun K "shifted_edge" "shifted_edge" s_shifted_edge f fd) : FnOk P w K mg bh (L2.CX P w) 3 f fd ["edge", "k"] (spD (Gx.mk K cm none) 2 fn_shifted_edge) := by
  refine F.okX sc_shifted_edge (spQ_len rfl) (fun cdv A outer s H vs Q E hr h => ?_)
  exact body_of (G := (Gx.mk K cm none)) (W := fun c d _ H => E c d H)
      (dss_cons (ds_if (dt_cmp (od_in (un65 hr)) (de_var (i := 0)) (de_tup (da_cons (de_glI T.g_FIRST (by rfl)) (da_cons (de_glI T.g_LAST (by rfl)) da_nil))) (by rfl))
      (dss_one (ds_ret (de_var (i := 0))))
      dss_nil)
      (dss_cons (ds_set (i := 2) sc_shifted_edge.nd (de_bin od_add (de_var (i := 0)) (de_var (i := 1))))
      (dss_cons (ds_if (dt_not (dt_chain od_le od_le (de_un ud_neg (de_glI T.g_FAR (by rfl))) (de_var (i := 2)) (de_glI T.g_FAR (by rfl))))
      (dss_one (ds_raiseB (c := "TooFar") rfl E_TooFar hr (by decide) (takes_of rfl rfl rfl rfl) (by rfl) (de_var (i := 2))))
      dss_nil)
      (dss_one (ds_ret (de_var (i := 2)))))))
      rfl (fun _ _ _ _ z => z) h
end
/-! shifted -/
abbrev s_shifted : Stmt := topS 15
abbrev sc_shifted_N : List Str := ["pair", "k"]
theorem sc_shifted : FnScope sc_shifted_N ["pair", "k"] (defScope s_shifted) := ⟨rfl, rfl, rfl, by decide +kernel, rfl, by decide +kernel, by decide +kernel⟩
def t_shifted_1 : SX :=
    (sRet (eTup [(.ex (eCallX 2 fn_shifted_edge [] [(.ex (eOp (op2 ixD) [(.ex (eVar 0)), (.ex (eC (.int 0)))])), (.ex (eVar 1))])), (.ex (eCallX 2 fn_shifted_edge [] [(.ex (eOp (op2 ixD) [(.ex (eVar 0)), (.ex (eC (.int 1)))])), (.ex (eVar 1))]))]))
def sem_shifted : SX :=
    t_shifted_1
def fn_shifted : List Cell → Rs D := (fnB 2 sem_shifted)

section
variable {P : Program} {w : World} {K : PySem.W.Frag} {mg : Str → Option Value} {bh : Heap}
theorem ok_shifted {f : Addr} {fd : FuncData} {cm : Str → Addr} {f_shifted_edge : Addr} {fd_shifted_edge : FuncData} (B : Blt mg) (T : Txt K mg) (KI : Kits K mg cm) (R_shifted_edge : RdyX P w K mg bh "shifted_edge" 3 ["edge", "k"] (spD (Gx.mk K cm none) 2 fn_shifted_edge) f_shifted_edge fd_shifted_edge) (F : Fun K "shifted" "shifted" s_shifted f fd) : FnOk P w K mg bh (L2.CX P w) 4 f fd ["pair", "k"] (spD (Gx.mk K cm none) 2 fn_shifted) := by
  refine F.okX sc_shifted (spQ_len rfl) (fun cdv A outer s H vs Q E hr h => ?_)
  exact body_of (G := (Gx.mk K cm none)) (W := fun c d _ H => E c d H)
      (dss_one (ds_ret (de_tup (da_cons (de_callXS R_shifted_edge hr (by decide) (by rfl) (takes_of rfl rfl rfl rfl) (da_cons (de_ix (de_var (i := 0)) de_int) (da_cons (de_var (i := 1)) da_nil))) (da_cons (de_callXS R_shifted_edge hr (by decide) (by rfl) (takes_of rfl rfl rfl rfl) (da_cons (de_ix (de_var (i := 0)) de_int) (da_cons (de_var (i := 1)) da_nil))) da_nil)))))
      rfl (fun _ _ _ _ z => z) h
end
/-! Span.__add__ -/
abbrev s_Span_add : Stmt := inClass (topS 18) 10
abbrev sc_Span_add_N : List Str := ["self", "other", "begin", "end"]
theorem sc_Span_add : FnScope sc_Span_add_N ["self", "other"] (defScope s_Span_add) := ⟨rfl, rfl, rfl, by decide +kernel, rfl, by decide +kernel, by decide +kernel⟩
def t_Span_add_1 : SX :=
    (sIf (bNot (bTru (.ex (eCall 1 fn_is_number [] [(.ex (eVar 1))]))))
    sBad
    sNil)
def t_Span_add_2 : SX :=
    (sAsg (eCallX 2 fn_shifted [] [(.ex (eProp "Span" fn_Span_pair (eVar 0))), (.ex (eVar 1))]) (gTupD 2 (gsCons (gSet 2) (gsCons (gSet 3) gsNil))))
def t_Span_add_3 : SX :=
    (sRet (eMkX 3 fn_Span_init "Span" [] [(.ex (eVar 2)), (.ex (eVar 3))]))
def sem_Span_add : SX :=
    (sSeq t_Span_add_1
    (sSeq t_Span_add_2
    t_Span_add_3))
def fn_Span_add : List Cell → Rs D := (fnB 4 sem_Span_add)

section
variable {P : Program} {w : World} {K : PySem.W.Frag} {mg : Str → Option Value} {bh : Heap}
theorem ok_Span_add {f : Addr} {fd : FuncData} {cm : Str → Addr} {f_is_number : Addr} {fd_is_number : FuncData} {f_Span_init : Addr} {fd_Span_init : FuncData} {f_Span_pair : Addr} {fd_Span_pair : FuncData} {p_Span_pair : Addr} {f_shifted : Addr} {fd_shifted : FuncData} (B : Blt mg) (T : Txt K mg) (KI : Kits K mg cm) (R_is_number : Rdy P w K mg bh "is_number" 1 ["value"] (spD (Gx.mk K cm none) 1 fn_is_number) f_is_number fd_is_number) (R_Span_init : RdyMkX P w K mg bh "Span" (cm "Span") 5 ["self", "begin", "end"] (spD (Gx.mk K cm none) 3 fn_Span_init) f_Span_init fd_Span_init) (R_Span_pair : RdyPr P w K mg bh (cm "Span") "pair" 1 (spD (Gx.mk K cm none) 1 fn_Span_pair) p_Span_pair f_Span_pair fd_Span_pair) (R_shifted : RdyX P w K mg bh "shifted" 4 ["pair", "k"] (spD (Gx.mk K cm none) 2 fn_shifted) f_shifted fd_shifted) (W_Span_init_2 : Fill K fd_Span_init ["self", "begin", "end"] []) (F : Fun K "__add__" "Span.__add__" s_Span_add f fd) : FnOk P w K mg bh (L2.CX P w) 7 f fd ["self", "other"] (spD (Gx.mk K cm none) 2 fn_Span_add) := by
  refine F.okX sc_Span_add (spQ_len rfl) (fun cdv A outer s H vs Q E hr h => ?_)
  exact body_of (G := (Gx.mk K cm none)) (W := fun c d _ H => E c d H)
      (dss_cons (ds_if (dt_not (dt_tru (de_call R_is_number hr (by decide) (by rfl) (da_cons (de_var (i := 1)) da_nil))))
      (dss_one ds_never)
      dss_nil)
      (dss_cons (ds_asg (de_callXS R_shifted hr (by decide) (by rfl) (takes_of rfl rfl rfl rfl) (da_cons (de_propE (de_var (i := 0)) R_Span_pair KI.cl_Span hr (by decide)) (da_cons (de_var (i := 1)) da_nil))) (dg_tup (by rfl) (dgs_cons (dg_name sc_Span_add.nd (i := 2)) (dgs_cons (dg_name sc_Span_add.nd (i := 3)) dgs_nil))))
      (dss_one (ds_ret (de_mkX R_Span_init W_Span_init_2 hr (by decide) (by rfl) (takes_of rfl rfl rfl rfl) (da_cons (de_var (i := 2)) (da_cons (de_var (i := 3)) da_nil)) (fun _ => .nil))))))
      rfl (fun _ _ _ _ z => z) h
end
/-! Span.__radd__ -/
abbrev s_Span_radd : Stmt := inClass (topS 18) 11
abbrev sc_Span_radd_N : List Str := ["self", "other"]
theorem sc_Span_radd : FnScope sc_Span_radd_N ["self", "other"] (defScope s_Span_radd) := ⟨rfl, rfl, rfl, by decide +kernel, rfl, by decide +kernel, by decide +kernel⟩
def t_Span_radd_1 : SX :=
    (sIf (bNot (bTru (.ex (eCall 1 fn_is_number [] [(.ex (eVar 1))]))))
    sBad
    sNil)
def t_Span_radd_2 : SX :=
    (sRet (eOpX (tI "Span") false fn_Span_add (eVar 0) (eVar 1)))
def sem_Span_radd : SX :=
    (sSeq t_Span_radd_1
    t_Span_radd_2)
def fn_Span_radd : List Cell → Rs D := (fnB 2 sem_Span_radd)

section
variable {P : Program} {w : World} {K : PySem.W.Frag} {mg : Str → Option Value} {bh : Heap}
theorem ok_Span_radd {f : Addr} {fd : FuncData} {cm : Str → Addr} {f_is_number : Addr} {fd_is_number : FuncData} {f_Span_add : Addr} (B : Blt mg) (T : Txt K mg) (KI : Kits K mg cm) (R_is_number : Rdy P w K mg bh "is_number" 1 ["value"] (spD (Gx.mk K cm none) 1 fn_is_number) f_is_number fd_is_number) (R_Span_add : RdyOpX P w K mg bh (cm "Span") "__add__" 7 (spD (Gx.mk K cm none) 2 fn_Span_add) f_Span_add) (F : Fun K "__radd__" "Span.__radd__" s_Span_radd f fd) : FnOk P w K mg bh (L2.CX P w) 9 f fd ["self", "other"] (spD (Gx.mk K cm none) 2 fn_Span_radd) := by
  refine F.okX sc_Span_radd (spQ_len rfl) (fun cdv A outer s H vs Q E hr h => ?_)
  exact body_of (G := (Gx.mk K cm none)) (W := fun c d _ H => E c d H)
      (dss_cons (ds_if (dt_not (dt_tru (de_call R_is_number hr (by decide) (by rfl) (da_cons (de_var (i := 1)) da_nil))))
      (dss_one ds_never)
      dss_nil)
      (dss_one (ds_ret (de_opX (tst_int (fo := some (.builtin "int.__add__")) (ro := some (.builtin "int.__radd__")) (h1 := by rfl) (h2 := by rfl) R_Span_add.ok hr (by decide) (fun σ => passAt (takes_of rfl rfl rfl rfl) σ) KI.self_Span R_Span_add.at_ R_Span_add.fn KI.fat_Span___radd__) (de_var (i := 0)) (de_var (i := 1))))))
      rfl (fun _ _ _ _ z => z) h
end
/-! Span.__sub__ -/
abbrev s_Span_sub : Stmt := inClass (topS 18) 12
abbrev sc_Span_sub_N : List Str := ["self", "other"]
theorem sc_Span_sub : FnScope sc_Span_sub_N ["self", "other"] (defScope s_Span_sub) := ⟨rfl, rfl, rfl, by decide +kernel, rfl, by decide +kernel, by decide +kernel⟩
def t_Span_sub_1 : SX :=
    (sIf (bNot (bTru (.ex (eCall 1 fn_is_number [] [(.ex (eVar 1))]))))
    sBad
    sNil)
def t_Span_sub_2 : SX :=
    (sRet (eOpX (tI "Span") false fn_Span_add (eVar 0) (eOp (op1 negD) [(.ex (eVar 1))])))
def sem_Span_sub : SX :=
    (sSeq t_Span_sub_1
    t_Span_sub_2)
def fn_Span_sub : List Cell → Rs D := (fnB 2 sem_Span_sub)

section
variable {P : Program} {w : World} {K : PySem.W.Frag} {mg : Str → Option Value} {bh : Heap}
theorem ok_Span_sub {f : Addr} {fd : FuncData} {cm : Str → Addr} {f_is_number : Addr} {fd_is_number : FuncData} {f_Span_add : Addr} (B : Blt mg) (T : Txt K mg) (KI : Kits K mg cm) (R_is_number : Rdy P w K mg bh "is_number" 1 ["value"] (spD (Gx.mk K cm none) 1 fn_is_number) f_is_number fd_is_number) (R_Span_add : RdyOpX P w K mg bh (cm "Span") "__add__" 7 (spD (Gx.mk K cm none) 2 fn_Span_add) f_Span_add) (F : Fun K "__sub__" "Span.__sub__" s_Span_sub f fd) : FnOk P w K mg bh (L2.CX P w) 9 f fd ["self", "other"] (spD (Gx.mk K cm none) 2 fn_Span_sub) := by
  refine F.okX sc_Span_sub (spQ_len rfl) (fun cdv A outer s H vs Q E hr h => ?_)
  exact body_of (G := (Gx.mk K cm none)) (W := fun c d _ H => E c d H)
      (dss_cons (ds_if (dt_not (dt_tru (de_call R_is_number hr (by decide) (by rfl) (da_cons (de_var (i := 1)) da_nil))))
      (dss_one ds_never)
      dss_nil)
      (dss_one (ds_ret (de_opX (tst_int (fo := some (.builtin "int.__add__")) (ro := some (.builtin "int.__radd__")) (h1 := by rfl) (h2 := by rfl) R_Span_add.ok hr (by decide) (fun σ => passAt (takes_of rfl rfl rfl rfl) σ) KI.self_Span R_Span_add.at_ R_Span_add.fn KI.fat_Span___radd__) (de_var (i := 0)) (de_un ud_neg (de_var (i := 1)))))))
      rfl (fun _ _ _ _ z => z) h
end
/-! _law_shifted -/
abbrev s_l_shifted : Stmt := topS 26
abbrev sc_l_shifted_N : List Str := ["_law_span", "_law_k", "_law_way", "_law_got", "e"]
theorem sc_l_shifted : FnScope sc_l_shifted_N ["_law_span", "_law_k", "_law_way"] (defScope s_l_shifted) := ⟨rfl, rfl, rfl, by decide +kernel, rfl, by decide +kernel, by decide +kernel⟩
def t_l_shifted_1 : SX :=
    (sTry (sIf (bBl (eOp (op2 eqD) [(.ex (eVar 2)), (.ex (eC (.int 0)))]))
    (sSet 3 (eOpX (tI "Span") false fn_Span_add (eVar 0) (eVar 1)))
    (sIf (bBl (eOp (op2 eqD) [(.ex (eVar 2)), (.ex (eC (.int 1)))]))
    (sSet 3 (eOpX (tJ "Span") true fn_Span_radd (eVar 1) (eVar 0)))
    (sSet 3 (eOpX (tI "Span") false fn_Span_sub (eVar 0) (eOp (op1 negD) [(.ex (eVar 1))])))))
    [⟨tbx_TooFar, 4, (sRet (eIf (bTru (.ex (eXis 4 tbxi_OverflowError))) (eTup [(.ex (eC (.str "far"))), (.ex (eOp (op1 reprD) [(.ex (eXf 4 "TooFar" "edge"))]))]) (eTup [(.ex (eC (.str "wrong"))), (.ex (eC (.str "")))])))⟩])
def t_l_shifted_2 : SX :=
    (sRet (eIf (bTru (.ex (eIsi tb_own ow_Span (.ex (eVar 3))))) (eTup [(.ex (eC (.str "made"))), (.ex (eOp (op1 reprD) [(.ex (eProp "Span" fn_Span_pair (eVar 3)))]))]) (eTup [(.ex (eC (.str "wrong"))), (.ex (eC (.str "")))])))
def sem_l_shifted : SX :=
    (sSeq t_l_shifted_1
    t_l_shifted_2)
def fn_l_shifted : List Cell → Rs D := fnN (fnB 5 sem_l_shifted)

section
variable {P : Program} {w : World} {K : PySem.W.Frag} {mg : Str → Option Value} {bh : Heap}
theorem ok_l_shifted {f : Addr} {fd : FuncData} {cm : Str → Addr} {fI_TooFar : Addr} {fdE_TooFar : FuncData} {f_Span_pair : Addr} {fd_Span_pair : FuncData} {p_Span_pair : Addr} {f_Span_add : Addr} {f_Span_radd : Addr} {f_Span_sub : Addr} (B : Blt mg) (T : Txt K mg) (KI : Kits K mg cm) (E_TooFar : ErrB P w K mg bh "TooFar" "edge" (cm "TooFar") fI_TooFar fdE_TooFar) (R_Span_pair : RdyPr P w K mg bh (cm "Span") "pair" 1 (spD (Gx.mk K cm none) 1 fn_Span_pair) p_Span_pair f_Span_pair fd_Span_pair) (R_Span_add : RdyOpX P w K mg bh (cm "Span") "__add__" 7 (spD (Gx.mk K cm none) 2 fn_Span_add) f_Span_add) (R_Span_radd : RdyOpX P w K mg bh (cm "Span") "__radd__" 9 (spD (Gx.mk K cm none) 2 fn_Span_radd) f_Span_radd) (R_Span_sub : RdyOpX P w K mg bh (cm "Span") "__sub__" 9 (spD (Gx.mk K cm none) 2 fn_Span_sub) f_Span_sub) (F : Fun K "_law_shifted" "_law_shifted" s_l_shifted f fd) : FnG P w K mg bh 11 f fd ["_law_span", "_law_k", "_law_way"] (spD (Gx.mk K cm none) 3 fn_l_shifted) := by
  refine Fun.okG F sc_l_shifted (spQ_len rfl) (fun cdv A outer s H vs Q E gd hr h => ?_)
  have hu1 := un66 hr
  exact body_ofN (G := (Gx.mk K cm none))
      (dss_cons (ds_try (fun W' pn xe tk1 po1 => (dss_one (ds_if (dt_cmp (od_eq hr.units) (de_var (i := 2)) de_int (nomark _))
      (dss_one (ds_set (i := 3) sc_l_shifted.nd (de_opX (tst_int (fo := some (.builtin "int.__add__")) (ro := some (.builtin "int.__radd__")) (h1 := by rfl) (h2 := by rfl) R_Span_add.ok hr (by decide) (fun σ => passAt tk1 σ) KI.self_Span R_Span_add.at_ R_Span_add.fn KI.fat_Span___radd__) (de_var (i := 0)) (de_var (i := 1)))))
      (dss_one (ds_if (dt_cmp (od_eq hr.units) (de_var (i := 2)) de_int (nomark _))
      (dss_one (ds_set (i := 3) sc_l_shifted.nd (de_opX (tst_radd R_Span_radd.ok hr (by decide) (fun σ => passAt tk1 σ) KI.two_Span R_Span_radd.at_ R_Span_radd.fn KI.fat_Span___add__ KI.ni_Span (o1 := by rfl) (o2 := by rfl)) (de_var (i := 1)) (de_var (i := 0)))))
      (dss_one (ds_set (i := 3) sc_l_shifted.nd (de_opX (tst_int (fo := some (.builtin "int.__sub__")) (ro := some (.builtin "int.__rsub__")) (h1 := by rfl) (h2 := by rfl) R_Span_sub.ok hr (by decide) (fun σ => passAt tk1 σ) KI.self_Span R_Span_sub.at_ R_Span_sub.fn KI.fat_Span___rsub__) (de_var (i := 0)) (de_un ud_neg (de_var (i := 1)))))))))))
      (DCl.cons (k := ⟨tbx_TooFar, 4, (sRet (eIf (bTru (.ex (eXis 4 tbxi_OverflowError))) (eTup [(.ex (eC (.str "far"))), (.ex (eOp (op1 reprD) [(.ex (eXf 4 "TooFar" "edge"))]))]) (eTup [(.ex (eC (.str "wrong"))), (.ex (eC (.str "")))])))⟩) rfl rfl ⟨by rfl, by decide, Or.inl E_TooFar.gC⟩ KI.x_TooFar (fun a oe cls d pn hz hf => (dss_one (ds_ret (de_ifExp (dt_tru (de_xis (i := 4) hz hf KI.xi_OverflowError (.ty _) (pe_bltn (v := .ty "OverflowError") (by rfl) B.b_OverflowError (by decide +kernel) rfl) (by rfl) B.b_isinstance)) (de_tup (da_cons (de_str (by decide +kernel)) (da_cons (de_callB (cd_reprU gd hu1) (by rfl) B.b_repr (by decide +kernel) (da_cons (de_xf (i := 4) hz hf E_TooFar.xf E_TooFar.noF) da_nil)) da_nil))) (de_tup (da_cons (de_str (by decide +kernel)) (da_cons (de_str (by decide +kernel)) da_nil)))))))
      DCl.nil) sc_l_shifted.nd takes0)
      (dss_one (ds_ret (de_ifExp (dt_tru (de_isi (de_var (i := 3)) KI.k_Span (.own _) (pe_glob (v := .ref (cm "Span")) (by rfl) KI.g_Span rfl) (by rfl) B.b_isinstance)) (de_tup (da_cons (de_str (by decide +kernel)) (da_cons (de_callB (cd_repr gd hr) (by rfl) B.b_repr (by decide +kernel) (da_cons (de_propE (de_var (i := 3)) R_Span_pair KI.cl_Span hr (by decide)) da_nil)) da_nil))) (de_tup (da_cons (de_str (by decide +kernel)) (da_cons (de_str (by decide +kernel)) da_nil)))))))
      rfl h
end
/-! Span.__eq__ -/
abbrev s_Span_eq : Stmt := inClass (topS 18) 6
abbrev sc_Span_eq_N : List Str := ["self", "other"]
theorem sc_Span_eq : FnScope sc_Span_eq_N ["self", "other"] (defScope s_Span_eq) := ⟨rfl, rfl, rfl, by decide +kernel, rfl, by decide +kernel, by decide +kernel⟩
def t_Span_eq_1 : SX :=
    (sRet (eAnd (eIsi tb_own ow_Span (.ex (eVar 1))) (eAnd (eOp (op2 eqD) [(.ex (eFld ["Span"] "begin" (eVar 0))), (.ex (eFld ["Span"] "begin" (eVar 1)))]) (eOp (op2 eqD) [(.ex (eFld ["Span"] "end" (eVar 0))), (.ex (eFld ["Span"] "end" (eVar 1)))]))))
def sem_Span_eq : SX :=
    t_Span_eq_1
def fn_Span_eq : List Cell → Rs D := fnN (fnB 2 sem_Span_eq)

section
variable {P : Program} {w : World} {K : PySem.W.Frag} {mg : Str → Option Value} {bh : Heap}
theorem ok_Span_eq {f : Addr} {fd : FuncData} {cm : Str → Addr} (B : Blt mg) (T : Txt K mg) (KI : Kits K mg cm) (F : Fun K "__eq__" "Span.__eq__" s_Span_eq f fd) : FnOk P w K mg bh CX0 1 f fd ["self", "other"] (spD (Gx.mk K cm none) 2 fn_Span_eq) := by
  refine F.ok sc_Span_eq (spQ_len rfl) (fun cdv A outer s H vs Q E hr h => ?_)
  exact body_ofN (G := (Gx.mk K cm none))
      (dss_one (ds_ret (de_and (de_isi (de_var (i := 1)) KI.k_Span (.own _) (pe_glob (v := .ref (cm "Span")) (by rfl) KI.g_Span rfl) (by rfl) B.b_isinstance) (de_and (de_cmp (od_eq hr.units) (de_fld (Cs := ["Span"]) (de_var (i := 0)) KI.fo_Span_begin) (de_fld (Cs := ["Span"]) (de_var (i := 1)) KI.fo_Span_begin) (nomark _)) (de_one (de_cmp (od_eq hr.units) (de_fld (Cs := ["Span"]) (de_var (i := 0)) KI.fo_Span_end) (de_fld (Cs := ["Span"]) (de_var (i := 1)) KI.fo_Span_end) (nomark _)))))))
      rfl h
end
/-! is_moment -/
abbrev s_is_moment : Stmt := topS 11
abbrev sc_is_moment_N : List Str := ["value"]
theorem sc_is_moment : FnScope sc_is_moment_N ["value"] (defScope s_is_moment) := ⟨rfl, rfl, rfl, by decide +kernel, rfl, by decide +kernel, by decide +kernel⟩
def t_is_moment_1 : SX :=
    (sRet (eAnd (eCall 1 fn_is_number [] [(.ex (eVar 0))]) (eChain ltD ltD (eC (.int (-10000000000000000000000000000000))) (eVar 0) (eC (.int (10000000000000000000000000000000))))))
def sem_is_moment : SX :=
    t_is_moment_1
def fn_is_moment : List Cell → Rs D := fnN (fnB 1 sem_is_moment)

section
variable {P : Program} {w : World} {K : PySem.W.Frag} {mg : Str → Option Value} {bh : Heap}
theorem ok_is_moment {f : Addr} {fd : FuncData} {cm : Str → Addr} {f_is_number : Addr} {fd_is_number : FuncData} (B : Blt mg) (T : Txt K mg) (KI : Kits K mg cm) (R_is_number : Rdy P w K mg bh "is_number" 1 ["value"] (spD (Gx.mk K cm none) 1 fn_is_number) f_is_number fd_is_number) (F : Fun K "is_moment" "is_moment" s_is_moment f fd) : FnOk P w K mg bh CX0 2 f fd ["value"] (spD (Gx.mk K cm none) 1 fn_is_moment) := by
  refine F.ok sc_is_moment (spQ_len rfl) (fun cdv A outer s H vs Q E hr h => ?_)
  exact body_ofN (G := (Gx.mk K cm none))
      (dss_one (ds_ret (de_and (de_call R_is_number hr (by decide) (by rfl) (da_cons (de_var (i := 0)) da_nil)) (de_one (de_chain od_lt od_lt (de_glI T.g_FIRST (by rfl)) (de_var (i := 0)) (de_glI T.g_LAST (by rfl)))))))
      rfl h
end
/-! Span.__contains__ -/
abbrev s_Span_contains : Stmt := inClass (topS 18) 8
abbrev sc_Span_contains_N : List Str := ["self", "x"]
theorem sc_Span_contains : FnScope sc_Span_contains_N ["self", "x"] (defScope s_Span_contains) := ⟨rfl, rfl, rfl, by decide +kernel, rfl, by decide +kernel, by decide +kernel⟩
def t_Span_contains_1 : SX :=
    (sRet (eAnd (eCall 1 fn_is_moment [] [(.ex (eVar 1))]) (eChain leD ltD (eFld ["Span"] "begin" (eVar 0)) (eVar 1) (eFld ["Span"] "end" (eVar 0)))))
def sem_Span_contains : SX :=
    t_Span_contains_1
def fn_Span_contains : List Cell → Rs D := fnN (fnB 2 sem_Span_contains)

section
variable {P : Program} {w : World} {K : PySem.W.Frag} {mg : Str → Option Value} {bh : Heap}
theorem ok_Span_contains {f : Addr} {fd : FuncData} {cm : Str → Addr} {f_is_moment : Addr} {fd_is_moment : FuncData} (B : Blt mg) (T : Txt K mg) (KI : Kits K mg cm) (R_is_moment : Rdy P w K mg bh "is_moment" 2 ["value"] (spD (Gx.mk K cm none) 1 fn_is_moment) f_is_moment fd_is_moment) (F : Fun K "__contains__" "Span.__contains__" s_Span_contains f fd) : FnOk P w K mg bh CX0 3 f fd ["self", "x"] (spD (Gx.mk K cm none) 2 fn_Span_contains) := by
  refine F.ok sc_Span_contains (spQ_len rfl) (fun cdv A outer s H vs Q E hr h => ?_)
  exact body_ofN (G := (Gx.mk K cm none))
      (dss_one (ds_ret (de_and (de_call R_is_moment hr (by decide) (by rfl) (da_cons (de_var (i := 1)) da_nil)) (de_one (de_chain od_le od_lt (de_fld (Cs := ["Span"]) (de_var (i := 0)) KI.fo_Span_begin) (de_var (i := 1)) (de_fld (Cs := ["Span"]) (de_var (i := 0)) KI.fo_Span_end))))))
      rfl h
end
/-! law -/
abbrev s_law : Stmt := topS 27
abbrev sc_law_N : List Str := ["_law_script", "_law_at", "_law_bag_here", "_law_pair", "_law_span", "_law_k", "_law_due_here", "_law_way", "_law_got", "_law_moment", "_law_is_in", "_law_low", "_law_high", "_law_edge_here"]
theorem sc_law : FnScope sc_law_N ["_law_script"] (defScope s_law) := ⟨rfl, rfl, rfl, by decide +kernel, rfl, by decide +kernel, by decide +kernel⟩
def t_law_1 : SX :=
    (sOwn 2 (eCall 2 fn_l_bag [] [(.ex (eVar 0)), (.ex (eVar 1))]))
def t_law_2 : SX :=
    (sSet 3 (eCall 1 fn_l_stretch [] [(.sl 2)]))
def t_law_3 : SX :=
    (sSet 4 (eMk 3 fn_Span_init "Span" [] [(.ex (eOp (op2 ixD) [(.ex (eVar 3)), (.ex (eC (.int 0)))])), (.ex (eOp (op2 ixD) [(.ex (eVar 3)), (.ex (eC (.int 1)))]))]))
def t_law_4 : SX :=
    (sSet 6 (eCall 2 fn_l_due [] [(.ex (eVar 3)), (.ex (eVar 5))]))
def t_law_5 : SX :=
    (sIf (bOr (bBl (eOp (op2 neD) [(.ex (eCall 3 fn_l_shifted [] [(.ex (eVar 4)), (.ex (eVar 5)), (.ex (eVar 7))])), (.ex (eVar 6))])) (bBl (eOp (op2 neD) [(.ex (eOp (op1 reprD) [(.ex (eTup [(.ex (eFld ["Span"] "begin" (eVar 4))), (.ex (eFld ["Span"] "end" (eVar 4)))]))])), (.ex (eOp (op1 reprD) [(.ex (eVar 3))]))])))
    (sRet (eC (.bl false)))
    sNil)
def b_law_1 : SX :=
    t_law_5
def t_law_6 : SX :=
    (sFor (fRng1 (eC (.int 3))) (gSet 7)
    b_law_1)
def c_law_1 : PEnv → Rs (List D) :=
    (fLc (fSeq (eVar 3)) [13] (gSet 13) bYes (eIf (bBl (eOp (op2 eqD) [(.ex (eOp (op1 absD) [(.ex (eVar 13))])), (.ex (eOp (op2 powD) [(.ex (eC (.int 10))), (.ex (eC (.int 31)))]))])) (eVar 13) (eOp (op2 addD) [(.ex (eVar 13)), (.ex (eVar 5))])))
def t_law_7 : SX :=
    (sIf (bBl (eOp (op2 eqD) [(.ex (eOp (op2 ixD) [(.ex (eVar 6)), (.ex (eC (.int 0)))])), (.ex (eC (.str "made")))]))
    (sSeq (sSet 8 (eOpN (tI "Span") false fn_Span_add (eVar 4) (eVar 5)))
    (sSeq (sSet 9 (eOp (op2 subD) [(.ex (eOp (op2 addD) [(.ex (eOp (op2 maxD) [(.ex (eOp (op2 subD) [(.ex (eC (.int 1))), (.ex (eOp (op2 powD) [(.ex (eC (.int 10))), (.ex (eC (.int 31)))]))])), (.ex (eOp (op2 ixD) [(.ex (eVar 3)), (.ex (eC (.int 0)))]))])), (.ex (eCall 2 fn_l_take [] [(.sl 2), (.ex (eC (.int 3)))]))])), (.ex (eC (.int 1)))]))
    (sSeq (sSet 10 (eAnd (eChain leD ltD (eOp (op2 ixD) [(.ex (eVar 3)), (.ex (eC (.int 0)))]) (eVar 9) (eOp (op2 ixD) [(.ex (eVar 3)), (.ex (eC (.int 1)))])) (eOp (op2 ltD) [(.ex (eOp (op1 negD) [(.ex (eOp (op2 powD) [(.ex (eC (.int 10))), (.ex (eC (.int 31)))]))])), (.ex (eVar 9))])))
    (sSeq (sIf (bOr (bBl (eOp (op2 neD) [(.ex (eOp (op1 reprD) [(.ex (eOp (op2 (inB "Span" fn_Span_contains)) [(.ex (eVar 9)), (.ex (eVar 4))]))])), (.ex (eOp (op1 reprD) [(.ex (eVar 10))]))])) (bNot (bBl (eOp (op2 (ownEq "Span" ["Span"] fn_Span_eq)) [(.ex (eOpN (tI "Span") false fn_Span_sub (eVar 8) (eVar 5))), (.ex (eVar 4))]))))
    (sRet (eC (.bl false)))
    sNil)
    (sIf (bAnd (bBl (eChain ltD ltD (eOp (op1 negD) [(.ex (eOp (op2 powD) [(.ex (eC (.int 10))), (.ex (eC (.int 31)))]))]) (eOp (op2 addD) [(.ex (eVar 9)), (.ex (eVar 5))]) (eOp (op2 powD) [(.ex (eC (.int 10))), (.ex (eC (.int 31)))]))) (bBl (eOp (op2 ltD) [(.ex (eOp (op1 negD) [(.ex (eOp (op2 powD) [(.ex (eC (.int 10))), (.ex (eC (.int 31)))]))])), (.ex (eVar 9))])))
    (sSeq (sAsg (eFr c_law_1) (gSqD 2 (gsCons (gSet 11) (gsCons (gSet 12) gsNil))))
    (sIf (bBl (eOp (op2 neD) [(.ex (eOp (op1 reprD) [(.ex (eOp (op2 (inB "Span" fn_Span_contains)) [(.ex (eOp (op2 addD) [(.ex (eVar 9)), (.ex (eVar 5))])), (.ex (eVar 8))]))])), (.ex (eOp (op1 reprD) [(.ex (eChain leD ltD (eVar 11) (eOp (op2 addD) [(.ex (eVar 9)), (.ex (eVar 5))]) (eVar 12)))]))]))
    (sRet (eC (.bl false)))
    sNil))
    sNil)))))
    sNil)
def b_law_2 : SX :=
    (sSeq t_law_4
    (sSeq t_law_6
    t_law_7))
def t_law_8 : SX :=
    (sFor (fSeq (eFr (fLst [(.ex (eCall 2 fn_l_shift [] [(.sl 2), (.ex (eVar 3))])), (.ex (eC (.int 0))), (.ex (eCall 2 fn_l_shift [] [(.sl 2), (.ex (eVar 3))]))]))) (gSet 5)
    b_law_2)
def b_law_3 : SX :=
    (sSeq t_law_1
    (sSeq t_law_2
    (sSeq t_law_3
    t_law_8)))
def t_law_9 : SX :=
    (sFor (fRng1 (eOp (op2 maxD) [(.ex (eC (.int 1))), (.ex (eOp (op1 lenD) [(.ex (eVar 0))]))])) (gSet 1)
    b_law_3)
def t_law_10 : SX :=
    (sRet (eC (.bl true)))
def sem_law : SX :=
    (sSeq t_law_9
    t_law_10)
def fn_law : List Cell → Rs D := fnN (fnB 14 sem_law)

section
variable {P : Program} {w : World} {K : PySem.W.Frag} {mg : Str → Option Value} {bh : Heap}
theorem ok_law {f : Addr} {fd : FuncData} {cm : Str → Addr} {f_l_bag : Addr} {fd_l_bag : FuncData} {f_l_take : Addr} {fd_l_take : FuncData} {f_l_stretch : Addr} {fd_l_stretch : FuncData} {f_Span_init : Addr} {fd_Span_init : FuncData} {f_l_shift : Addr} {fd_l_shift : FuncData} {f_l_due : Addr} {fd_l_due : FuncData} {f_Span_add : Addr} {f_Span_sub : Addr} {f_l_shifted : Addr} {fd_l_shifted : FuncData} {f_Span_eq : Addr} {f_Span_contains : Addr} (B : Blt mg) (T : Txt K mg) (KI : Kits K mg cm) (R_l_bag : Rdy P w K mg bh "_law_bag" 1 ["_law_script", "_law_at"] (spF (Gx.mk K cm none) 2 fn_l_bag) f_l_bag fd_l_bag) (R_l_take : Rdy P w K mg bh "_law_take" 1 ["_law_bag_here", "_law_many"] (spD (Gx.mk K cm none) 2 fn_l_take) f_l_take fd_l_take) (R_l_stretch : Rdy P w K mg bh "_law_stretch" 3 ["_law_bag_here"] (spD (Gx.mk K cm none) 1 fn_l_stretch) f_l_stretch fd_l_stretch) (R_Span_init : RdyMkX P w K mg bh "Span" (cm "Span") 5 ["self", "begin", "end"] (spD (Gx.mk K cm none) 3 fn_Span_init) f_Span_init fd_Span_init) (R_l_shift : Rdy P w K mg bh "_law_shift" 2 ["_law_bag_here", "_law_pair"] (spD (Gx.mk K cm none) 2 fn_l_shift) f_l_shift fd_l_shift) (R_l_due : RdyG P w K mg bh "_law_due" 1 ["_law_pair", "_law_k"] (spD (Gx.mk K cm none) 2 fn_l_due) f_l_due fd_l_due) (R_Span_add : RdyOpX P w K mg bh (cm "Span") "__add__" 7 (spD (Gx.mk K cm none) 2 fn_Span_add) f_Span_add) (R_Span_sub : RdyOpX P w K mg bh (cm "Span") "__sub__" 9 (spD (Gx.mk K cm none) 2 fn_Span_sub) f_Span_sub) (R_l_shifted : RdyG P w K mg bh "_law_shifted" 11 ["_law_span", "_law_k", "_law_way"] (spD (Gx.mk K cm none) 3 fn_l_shifted) f_l_shifted fd_l_shifted) (R_Span_eq : RdyOp P w K mg bh (cm "Span") "__eq__" 1 (spD (Gx.mk K cm none) 2 fn_Span_eq) f_Span_eq) (R_Span_contains : RdyOp P w K mg bh (cm "Span") "__contains__" 3 (spD (Gx.mk K cm none) 2 fn_Span_contains) f_Span_contains) (W_Span_init_2 : Fill K fd_Span_init ["self", "begin", "end"] []) (F : Fun K "law" "law" s_law f fd) : FnG P w K mg bh 12 f fd ["_law_script"] (spD (Gx.mk K cm none) 1 fn_law) := by
  refine Fun.okG F sc_law (spQ_len rfl) (fun cdv A outer s H vs Q E gd hr h => ?_)
  exact body_ofN (G := (Gx.mk K cm none))
      (dss_cons (ds_for (di_rng1 (de_callB cd_max2 (by rfl) B.b_max (by decide +kernel) (da_cons de_int (da_cons (de_callB cd_len (by rfl) B.b_len (by decide +kernel) (da_cons (de_var (i := 0)) da_nil)) da_nil))) (by rfl) B.b_range) (dg_name sc_law.nd (i := 1))
      (dss_cons (ds_own (i := 2) sc_law.nd (df_call R_l_bag hr (by decide) (by rfl) (da_cons (de_var (i := 0)) (da_cons (de_var (i := 1)) da_nil))))
      (dss_cons (ds_set (i := 3) sc_law.nd (de_call R_l_stretch hr (by decide) (by rfl) (da_cons (do_sl (i := 2)) da_nil)))
      (dss_cons (ds_set (i := 4) sc_law.nd (de_mkN R_Span_init W_Span_init_2 hr (by decide) (by rfl) (da_cons (de_ix (de_var (i := 3)) de_int) (da_cons (de_ix (de_var (i := 3)) de_int) da_nil)) (fun _ => .nil)))
      (dss_one (ds_for (di_seq (DF.de (df_lst (da_cons (de_call R_l_shift hr (by decide) (by rfl) (da_cons (do_sl (i := 2)) (da_cons (de_var (i := 3)) da_nil))) (da_cons de_int (da_cons (de_call R_l_shift hr (by decide) (by rfl) (da_cons (do_sl (i := 2)) (da_cons (de_var (i := 3)) da_nil))) da_nil)))))) (dg_name sc_law.nd (i := 5))
      (dss_cons (ds_set (i := 6) sc_law.nd (de_callG R_l_due gd hr (by decide) (by rfl) (da_cons (de_var (i := 3)) (da_cons (de_var (i := 5)) da_nil))))
      (dss_cons (ds_for (di_rng1 de_int (by rfl) B.b_range) (dg_name sc_law.nd (i := 7))
      (dss_one (ds_if (DW.pt (dw_or (dt_cmp (od_ne hr.units) (de_callG R_l_shifted gd hr (by decide) (by rfl) (da_cons (de_var (i := 4)) (da_cons (de_var (i := 5)) (da_cons (de_var (i := 7)) da_nil)))) (de_var (i := 6)) (nomark _)) (dw_or1 (dt_cmp (od_ne hr.units) (de_callB (cd_repr gd hr) (by rfl) B.b_repr (by decide +kernel) (da_cons (de_tup (da_cons (de_fld (Cs := ["Span"]) (de_var (i := 4)) KI.fo_Span_begin) (da_cons (de_fld (Cs := ["Span"]) (de_var (i := 4)) KI.fo_Span_end) da_nil))) da_nil)) (de_callB (cd_repr gd hr) (by rfl) B.b_repr (by decide +kernel) (da_cons (de_var (i := 3)) da_nil)) (nomark _)))))
      (dss_one (ds_ret de_bl))
      dss_nil)) PassesOwn.never)
      (dss_one (ds_if (dt_cmp (od_eq hr.units) (de_ix (de_var (i := 6)) de_int) (de_str (by decide +kernel)) (nomark _))
      (dss_cons (ds_set (i := 8) sc_law.nd (de_opN (tst_int (fo := some (.builtin "int.__add__")) (ro := some (.builtin "int.__radd__")) (h1 := by rfl) (h2 := by rfl) R_Span_add.ok hr (by decide) (fun σ => passAt0) KI.self_Span R_Span_add.at_ R_Span_add.fn KI.fat_Span___radd__) (de_var (i := 4)) (de_var (i := 5))))
      (dss_cons (ds_set (i := 9) sc_law.nd (de_bin od_sub (de_bin od_add (de_callB cd_max2 (by rfl) B.b_max (by decide +kernel) (da_cons (de_bin od_sub de_int (de_bin od_pow de_int de_int)) (da_cons (de_ix (de_var (i := 3)) de_int) da_nil))) (de_call R_l_take hr (by decide) (by rfl) (da_cons (do_sl (i := 2)) (da_cons de_int da_nil)))) de_int))
      (dss_cons (ds_set (i := 10) sc_law.nd (de_and (de_chain od_le od_lt (de_ix (de_var (i := 3)) de_int) (de_var (i := 9)) (de_ix (de_var (i := 3)) de_int)) (de_one (de_cmp od_lt (de_un ud_neg (de_bin od_pow de_int de_int)) (de_var (i := 9)) (nomark _)))))
      (dss_cons (ds_if (DW.pt (dw_or (dt_cmp (od_ne hr.units) (de_callB (cd_repr gd hr) (by rfl) B.b_repr (by decide +kernel) (da_cons (de_cmp (od_inOwn R_Span_contains hr (by decide)) (de_var (i := 9)) (de_var (i := 4)) (by rfl)) da_nil)) (de_callB (cd_repr gd hr) (by rfl) B.b_repr (by decide +kernel) (da_cons (de_var (i := 10)) da_nil)) (nomark _)) (dw_or1 (dt_not (dt_cmp (od_eqAny R_Span_eq hr (by decide) KI.nf_Span) (de_opN (tst_int (fo := some (.builtin "int.__sub__")) (ro := some (.builtin "int.__rsub__")) (h1 := by rfl) (h2 := by rfl) R_Span_sub.ok hr (by decide) (fun σ => passAt0) KI.self_Span R_Span_sub.at_ R_Span_sub.fn KI.fat_Span___rsub__) (de_var (i := 8)) (de_var (i := 5))) (de_var (i := 4)) (nomark _))))))
      (dss_one (ds_ret de_bl))
      dss_nil)
      (dss_one (ds_if (DW.pt (dw_and (dt_chain od_lt od_lt (de_un ud_neg (de_bin od_pow de_int de_int)) (de_bin od_add (de_var (i := 9)) (de_var (i := 5))) (de_bin od_pow de_int de_int)) (dw_and1 (dt_cmp od_lt (de_un ud_neg (de_bin od_pow de_int de_int)) (de_var (i := 9)) (nomark _)))))
      (dss_cons (ds_asg (DF.de (df_lc (own := [("_law_edge_here", 13)]) (di_seq (de_var (i := 3))) (blkOk_by (own := [("_law_edge_here", 13)]) (N := sc_law_N) (sc := defScope s_law) (by decide +kernel)) (fun _ _ _ _ _ => (dg_name sc_law.nd (i := 13))) (fun _ _ _ _ _ => dts_nil) (fun _ _ _ _ _ => (de_ifExp (dt_cmp (od_eq hr.units) (de_callB cd_abs (by rfl) B.b_abs (by decide +kernel) (da_cons (de_var (i := 13)) da_nil)) (de_bin od_pow de_int de_int) (nomark _)) (de_var (i := 13)) (de_bin od_add (de_var (i := 13)) (de_var (i := 5))))) sc_law.nd)) (dg_sq (by rfl) (dgs_cons (dg_name sc_law.nd (i := 11)) (dgs_cons (dg_name sc_law.nd (i := 12)) dgs_nil))))
      (dss_one (ds_if (dt_cmp (od_ne hr.units) (de_callB (cd_repr gd hr) (by rfl) B.b_repr (by decide +kernel) (da_cons (de_cmp (od_inOwn R_Span_contains hr (by decide)) (de_bin od_add (de_var (i := 9)) (de_var (i := 5))) (de_var (i := 8)) (by rfl)) da_nil)) (de_callB (cd_repr gd hr) (by rfl) B.b_repr (by decide +kernel) (da_cons (de_chain od_le od_lt (de_var (i := 11)) (de_bin od_add (de_var (i := 9)) (de_var (i := 5))) (de_var (i := 12))) da_nil)) (nomark _))
      (dss_one (ds_ret de_bl))
      dss_nil)))
      dss_nil))))))
      dss_nil)))) PassesOwn.never))))) PassesOwn.never)
      (dss_one (ds_ret de_bl)))
      rfl h
end
end Spk
namespace Spk
open PySem PySem.Spec PyProof.Rows L2
/-! ### facts of every law -/
def nbO : Option Cell → Bool
  | some (.bor _) => false
  | _ => true
def oc : Option D → Cell
  | none => .no
  | some d => .val d
theorem notBor_eq (ρ : PEnv) (i : Nat) : notBor ρ i = nbO ρ[i]? := by unfold notBor nbO; rfl
theorem nbO_val (d : D) : nbO (some (.val d)) = true := rfl
theorem nbO_no : nbO (some .no) = true := rfl
theorem nbO_own (m : Mu) : nbO (some (.own m)) = true := rfl
theorem nbO_oc (x : Option D) : nbO (some (oc x)) = true := by cases x <;> rfl
theorem oc_mu (x : Option D) : (oc x).mu? = none := by cases x <;> rfl
theorem oc_some (d : D) : oc (some d) = .val d := rfl
theorem oc_none : oc none = .no := rfl
theorem oc_noX (x : Option D) : (oc x).noX = true := by cases x <;> rfl
theorem at2_0 {α : Type} (a b : α) : atI [a, b] 0 = some a := rfl
theorem at2_1 {α : Type} (a b : α) : atI [a, b] 1 = some b := rfl
theorem at3_0 {α : Type} (a b c : α) : atI [a, b, c] 0 = some a := rfl
theorem at3_1 {α : Type} (a b c : α) : atI [a, b, c] 1 = some b := rfl
theorem at3_2 {α : Type} (a b c : α) : atI [a, b, c] 2 = some c := rfl
theorem set3_0 (a b c e : D) : setG 0 e [a, b, c] = some [e, b, c] := rfl
theorem set3_1 (a b c e : D) : setG 1 e [a, b, c] = some [a, e, c] := rfl
theorem set3_2 (a b c e : D) : setG 2 e [a, b, c] = some [a, b, e] := rfl
theorem set2_0 (a b e : D) : setG 0 e [a, b] = some [e, b] := rfl
theorem set2_1 (a b e : D) : setG 1 e [a, b] = some [a, e] := rfl
theorem at4_0 {α : Type} (a b c d : α) : atI [a, b, c, d] 0 = some a := rfl
theorem at4_1 {α : Type} (a b c d : α) : atI [a, b, c, d] 1 = some b := rfl
theorem at4_2 {α : Type} (a b c d : α) : atI [a, b, c, d] 2 = some c := rfl
theorem at4_3 {α : Type} (a b c d : α) : atI [a, b, c, d] 3 = some d := rfl
theorem set4_0 (a b c d e : D) : setG 0 e [a, b, c, d] = some [e, b, c, d] := rfl
theorem set4_3 (a b c d e : D) : setG 3 e [a, b, c, d] = some [a, b, c, e] := rfl
abbrev prT (p : Pr) : D := .tup [.int p.1, .int p.2]
theorem lt_ii (i j : Int) : ltD (.int i) (.int j) = some (.bl (decide (i < j))) := rfl
theorem le_ii (i j : Int) : leD (.int i) (.int j) = some (.bl (decide (i ≤ j))) := rfl
theorem gt_ii (i j : Int) : gtD (.int i) (.int j) = some (.bl (decide (j < i))) := rfl
theorem ge_ii (i j : Int) : geD (.int i) (.int j) = some (.bl (decide (j ≤ i))) := rfl
theorem neg_i (i : Int) : negD (.int i) = some (.int (-i)) := rfl
theorem add_ii (i j : Int) : addD (.int i) (.int j) = some (.int (i + j)) := rfl
theorem sub_ii (i j : Int) : subD (.int i) (.int j) = some (.int (i - j)) := rfl
theorem max_ii (i j : Int) : maxD (.int i) (.int j) = some (.int (if i < j then j else i)) := rfl
theorem min_ii (i j : Int) : minD (.int i) (.int j) = some (.int (if j < i then j else i)) := rfl
theorem add_ll (xs ys : List D) : addD (.lst xs) (.lst ys) = if xs.length + ys.length ≤ sizeLine then some (.lst (xs ++ ys)) else none := rfl
theorem add_tt (xs ys : List D) : addD (.tup xs) (.tup ys) = if xs.length + ys.length ≤ sizeLine then some (.tup (xs ++ ys)) else none := rfl
theorem ix_l (ds : List D) (i : Int) : ixD (.lst ds) (.int i) = atI ds i := rfl
theorem ix_t (ds : List D) (i : Int) : ixD (.tup ds) (.int i) = atI ds i := rfl
theorem len_l (ds : List D) : lenD (.lst ds) = some (.int ds.length) := rfl
theorem len_t (ds : List D) : lenD (.tup ds) = some (.int ds.length) := rfl
theorem len_scr (ns : List Int) : lenD (.scr ns) = some (.int ns.length) := rfl
theorem ix_pr0 (p : Pr) : ixD (prT p) (.int 0) = some (.int p.1) := rfl
theorem ix_pr1 (p : Pr) : ixD (prT p) (.int 1) = some (.int p.2) := rfl
theorem isi_pr (tb : List (String × Bool)) (ow : List (Str × Bool)) (p : Pr) : isiD tb ow (prT p) = tb.lookup "tuple" := rfl
theorem gTup_pr (gs : List D → PEnv → Option PEnv) (p : Pr) (ρ : PEnv) : gTupD 2 gs (prT p) ρ = gs [.int p.1, .int p.2] ρ := rfl
theorem fit_i (i : Int) : (D.int i).fit = true := rfl
theorem eqv_i (i j : Int) : eqv (.int i) (.int j) = decide (i = j) := by
  unfold eqv
  rw [Bool.eq_iff_iff]
  simp [D.py, PyData.eqv]
theorem eqv_s (x y : Str) : eqv (.str x) (.str y) = decide (x = y) := by
  unfold eqv
  rw [Bool.eq_iff_iff]
  simp [D.py, PyData.eqv]
theorem eq_ii (i j : Int) : eqD (.int i) (.int j) = some (.bl (decide (i = j))) := by
  unfold eqD
  rw [if_pos ⟨rfl, rfl⟩, eqv_i]
theorem ne_ii (i j : Int) : neD (.int i) (.int j) = some (.bl (!decide (i = j))) := by
  unfold neD
  rw [if_pos ⟨rfl, rfl⟩, eqv_i]
theorem eq_ss (x y : Str) : eqD (.str x) (.str y) = some (.bl (decide (x = y))) := by
  unfold eqD
  rw [if_pos ⟨rfl, rfl⟩, eqv_s]
theorem ne_ss (x y : Str) : neD (.str x) (.str y) = some (.bl (!decide (x = y))) := by
  unfold neD
  rw [if_pos ⟨rfl, rfl⟩, eqv_s]
theorem eq_bb (x y : Bool) : eqD (.bl x) (.bl y) = some (.bl (decide (x = y))) := by
  unfold eqD
  rw [if_pos ⟨rfl, rfl⟩]
  cases x <;> cases y <;> simp [eqv, D.py, PyData.eqv]
theorem ne_bb (x y : Bool) : neD (.bl x) (.bl y) = some (.bl (!decide (x = y))) := by
  unfold neD
  rw [if_pos ⟨rfl, rfl⟩]
  cases x <;> cases y <;> simp [eqv, D.py, PyData.eqv]
theorem lcD_enc {β : Type} {vs : List Nat} {g : TGf} {c : BX} {f : EX} {ρ : PEnv} (enc : β → D) (T : β → Bool) (Y : β → D) : ∀ bs : List β, (∀ b ∈ bs, ∃ ρ1 ρ2, g (enc b) (wipeE ρ vs) = some ρ1 ∧ c ρ1 = .ok (T b) ρ2 ∧ (T b = true → ∃ ρ3, f ρ2 = .ok (Y b) ρ3 ∧ backE ρ3 ρ vs = ρ) ∧ (T b = false → backE ρ2 ρ vs = ρ)) →
    lcD vs g c f (bs.map enc) ρ = .ok ((bs.filter T).map Y) ρ
  | [], _ => rfl
  | b :: bs, h => by
    obtain ⟨ρ1, ρ2, h1, h2, h3, h4⟩ := h b List.mem_cons_self
    have ih := lcD_enc enc T Y bs fun x hx => h x (List.mem_cons_of_mem _ hx)
    rw [List.map_cons]
    unfold lcD
    rw [h1]
    simp only [h2, Rs.nx_ok, Rs.bind_ok]
    cases e : T b with
    | true =>
      obtain ⟨ρ3, h5, h6⟩ := h3 e
      simp only [if_true, h5, Rs.nx_ok, Rs.bind_ok, h6, ih, List.filter_cons_of_pos e, List.map_cons]
    | false =>
      have := h4 e
      simp [this, ih, List.filter_cons_of_neg (by simp [e] : ¬ T b = true)]
theorem lcD_all {β : Type} {vs : List Nat} {g : TGf} {f : EX} {ρ : PEnv} (enc : β → D) (Y : β → D) (bs : List β) (h : ∀ b ∈ bs, ∃ ρ1 ρ3, g (enc b) (wipeE ρ vs) = some ρ1 ∧ f ρ1 = .ok (Y b) ρ3 ∧ backE ρ3 ρ vs = ρ) :
    lcD vs g bYes f (bs.map enc) ρ = .ok (bs.map Y) ρ := by
  have := lcD_enc (vs := vs) (g := g) (c := bYes) (f := f) (ρ := ρ) enc (fun _ => true) Y bs fun b hb => by
    obtain ⟨ρ1, ρ3, h1, h2, h3⟩ := h b hb
    exact ⟨ρ1, ρ1, h1, rfl, fun _ => ⟨ρ3, h2, h3⟩, fun e => nomatch e⟩
  rwa [List.filter_eq_self.mpr (fun _ _ => rfl)] at this
/-- a comprehension that draws -/
theorem lcD_ex {vs : List Nat} {g : TGf} {f : EX} (P : Nat → PEnv → Prop) (Qy : D → Prop) : ∀ (ds : List D) (i N : Nat) (ρ : PEnv), i + ds.length ≤ N → P i ρ → (∀ d ∈ ds, ∀ i ρ, i < N → P i ρ → ∃ ρ1 ρ3 y, g d (wipeE ρ vs) = some ρ1 ∧ f ρ1 = .ok y ρ3 ∧ P (i + 1) (backE ρ3 ρ vs) ∧ Qy y) →
    ∃ ys ρ', lcD vs g bYes f ds ρ = .ok ys ρ' ∧ P (i + ds.length) ρ' ∧ ys.length = ds.length ∧ ∀ y ∈ ys, Qy y
  | [], i, N, ρ, _, h0, _ => ⟨[], ρ, rfl, h0, rfl, fun _ h => absurd h List.not_mem_nil⟩
  | d :: ds, i, N, ρ, hN, h0, hs => by
    rw [List.length_cons] at hN
    obtain ⟨ρ1, ρ3, y, h1, h2, h3, h4⟩ := hs d List.mem_cons_self i ρ (by omega) h0
    obtain ⟨ys, ρ', h5, h6, h7, h8⟩ := lcD_ex P Qy ds (i + 1) N _ (by omega) h3 fun d' hd => hs d' (List.mem_cons_of_mem _ hd)
    refine ⟨y :: ys, ρ', ?_, by rw [List.length_cons, show i + (ds.length + 1) = i + 1 + ds.length by omega]; exact h6, by simp [h7], fun z hz => ?_⟩
    · have hb : (bYes ρ1).nx = .ok true ρ1 := rfl
      unfold lcD
      rw [h1]
      simp only [hb, Rs.bind_ok, if_true, h2, Rs.nx_ok, h5]
    · rcases List.mem_cons.mp hz with rfl | hz
      · exact h4
      · exact h8 z hz
theorem fold_more {α β : Type} {f : α → β → α} {a : α} {bs : List β} {i : Nat} {b : β} (h : bs[i]? = some b) : (bs.take (i + 1)).foldl f a = f ((bs.take i).foldl f a) b := by
  rw [List.take_add_one, h]; simp
theorem enu_mem {ds : List D} {d : D} (h : d ∈ enuD ds) : ∃ (i : Nat) (x : D), d = .tup [.int i, x] ∧ x ∈ ds := by
  obtain ⟨q, hq, rfl⟩ := List.mem_map.mp h
  exact ⟨q.2, q.1, rfl, (List.mem_zipIdx_iff_getElem?.mp hq) |> List.mem_of_getElem?⟩
theorem ints_map (ns : List Int) : ints? (ns.map D.int) = some ns := by
  induction ns with
  | nil => rfl
  | cons n r ih => simp [ints?, ih]
theorem bls_map (ns : List Bool) : bls? (ns.map D.bl) = some ns := by
  induction ns with
  | nil => rfl
  | cons n r ih => simp [bls?, ih]
theorem mul_ok {i j : Int} (hi : i.natAbs < 2 ^ 200) (hj : j.natAbs < 2 ^ 200) : mulD (.int i) (.int j) = some (.int (i * j)) := by
  have h1 : i.natAbs.log2 < 1000 := by
    rcases Nat.eq_zero_or_pos i.natAbs with h | h
    · rw [h]; decide
    · exact Nat.lt_trans ((Nat.log2_lt (by omega)).mpr hi) (by decide)
  have h2 : j.natAbs.log2 < 1000 := by
    rcases Nat.eq_zero_or_pos j.natAbs with h | h
    · rw [h]; decide
    · exact Nat.lt_trans ((Nat.log2_lt (by omega)).mpr hj) (by decide)
  show Option.map D.int (mulG i j) = _
  unfold mulG
  rw [if_pos (by omega)]; rfl
theorem div_ok {i j : Int} (h0 : 0 < j) (hj : j.natAbs < 2 ^ 200) : divD (.int i) (.int j) = some (.int (i / j)) := by
  have h2 : j.natAbs.log2 < 1000 := by
    exact Nat.lt_trans ((Nat.log2_lt (by omega)).mpr hj) (by decide)
  show Option.map D.int (divG i j) = _
  unfold divG
  rw [if_pos ⟨h0, by omega⟩]; rfl
theorem mod_ok {i j : Int} (h0 : 0 < j) : modD (.int i) (.int j) = some (.int (i % j)) := by
  show Option.map D.int (modG i j) = _
  unfold modG
  rw [if_pos h0]; rfl
theorem pow_ok {i : Int} {n : Nat} (hn : n ≤ 1000) (hi : i.natAbs < 2 ^ 64) : powD (.int i) (.int n) = some (.int (i ^ n)) := by
  show Option.map D.int (powG i n) = _
  unfold powG
  rw [if_pos ⟨by omega, by omega, hi⟩]; rfl
theorem int_i (i : Int) : intD (.int i) = some (.int i) := rfl
theorem pow2_ok {i : Int} (hi : i.natAbs < 2 ^ 64) : powD (.int i) (.int 2) = some (.int (i ^ 2)) := pow_ok (n := 2) (by decide) hi
theorem pow3_ok {i : Int} (hi : i.natAbs < 2 ^ 64) : powD (.int i) (.int 3) = some (.int (i ^ 3)) := pow_ok (n := 3) (by decide) hi
theorem pow6 : powD (.int 10) (.int 6) = some (.int 1000000) := rfl
theorem pow15 : powD (.int 10) (.int 15) = some (.int 1000000000000000) := rfl
theorem pow18 : powD (.int 10) (.int 18) = some (.int 1000000000000000000) := rfl
theorem pow20 : powD (.int 10) (.int 20) = some (.int 100000000000000000000) := rfl
theorem pow30 : powD (.int 10) (.int 30) = some (.int 1000000000000000000000000000000) := rfl
theorem pow31 : powD (.int 10) (.int 31) = some (.int 10000000000000000000000000000000) := rfl
theorem abs_i (i : Int) : absD (.int i) = some (.int (if i < 0 then -i else i)) := rfl
theorem rngD_len (lo : Int) (n : Nat) : (rngD lo n).length = n := by simp [rngD]
theorem isN_int (i : Int) (n : Bool) : isNonD n (.int i) .non = some (.bl n) := by cases n <;> rfl
theorem isN_non (n : Bool) : isNonD n .non .non = some (.bl !n) := by cases n <;> rfl
theorem small_rng {k : Int} (h0 : 0 ≤ k) (h1 : k < 1000000) : -(2 ^ 62) ≤ k ∧ k < 2 ^ 62 := by omega
theorem rng1_ok {f : EX} {ρ ρ' : PEnv} {j : Int} (h : f ρ = .ok (.int j) ρ') (h1 : -(2 ^ 62) ≤ j) (h2 : j < 2 ^ 62) : fRng1 f ρ = .ok (rngD 0 j.toNat) ρ' := by
  unfold fRng1
  rw [h]
  exact if_pos ⟨h1, h2⟩
theorem rng2_ok {f f2 : EX} {ρ ρ1 ρ' : PEnv} {i j : Int} (h : f ρ = .ok (.int i) ρ1) (h' : f2 ρ1 = .ok (.int j) ρ') (hi : -(2 ^ 62) ≤ i ∧ i < 2 ^ 62) (hj : -(2 ^ 62) ≤ j ∧ j < 2 ^ 62) : fRng2 f f2 ρ = .ok (rngD i (j - i).toNat) ρ' := by
  unfold fRng2
  rw [h]
  show (f2 ρ1).bind _ = _
  rw [h']
  exact if_pos ⟨hi.1, hi.2, hj.1, hj.2⟩
theorem lc_ok {it : PEnv → Rs (List D)} {vs : List Nat} {g : TGf} {c : BX} {f : EX} {ρ ρ1 : PEnv} {ds : List D} {r : Rs (List D)} (h : it ρ = .ok ds ρ1) (hn : noMut ρ1 vs = true) (hl : ds.length ≤ 16777216) (hk : lcD vs g c f ds ρ1 = r) : fLc it vs g c f ρ = r := by
  unfold fLc
  rw [h]
  exact (if_pos ⟨hn, hl⟩).trans hk
/-- an item -/
theorem at_mem {ds : List D} {r : Int} (h0 : 0 ≤ r) (h1 : r < ds.length) : ∃ d, d ∈ ds ∧ atI ds r = some d := by
  obtain ⟨k, rfl⟩ : ∃ k : Nat, r = k := ⟨r.toNat, by omega⟩
  have hk : k < ds.length := by omega
  refine ⟨ds[k], List.getElem_mem hk, ?_⟩
  unfold atI ixN
  rw [if_pos h0, if_pos h1]
  simp [List.getElem?_eq_getElem hk]
theorem at_nat {α : Type} {ds : List α} {k : Nat} : atI ds (k : Int) = ds[k]? := by
  unfold atI ixN
  rw [if_pos (by omega)]
  by_cases h : (k : Int) < ds.length
  · rw [if_pos h]; rfl
  · rw [if_neg h, List.getElem?_eq_none (by omega)]; rfl
/-! ### how a run ends -/
/-- nx: it goes on; rt: it gives back -/
def wS (N : PEnv → Prop) (T : D → PEnv → Prop) : Sr → Prop
  | .nx ρ => N ρ
  | .rt d ρ => T d ρ
  | _ => False
theorem wS_nx {N : PEnv → Prop} {T : D → PEnv → Prop} {ρ : PEnv} : wS N T (.nx ρ) = N ρ := rfl
theorem wS_rt {N : PEnv → Prop} {T : D → PEnv → Prop} {ρ : PEnv} {d : D} : wS N T (.rt d ρ) = T d ρ := rfl
theorem wS_seq {N : PEnv → Prop} {T : D → PEnv → Prop} {f g : SX} {ρ : PEnv} (h : wS (fun ρ' => wS N T (g ρ')) T (f ρ)) : wS N T (sSeq f g ρ) := by
  unfold sSeq
  cases hf : f ρ with
  | nx ρ' => rw [hf] at h; exact h
  | rt d ρ' => rw [hf] at h; exact h
  | rf d ρ' => rw [hf] at h; exact h
  | bk ρ' => rw [hf] at h; exact h
  | ct ρ' => rw [hf] at h; exact h
  | exc c x d ρ' => rw [hf] at h; exact h
  | bad => rw [hf] at h; exact h
/-- the next statement goes on -/
theorem go {N : PEnv → Prop} {T : D → PEnv → Prop} {f g : SX} {ρ ρ' : PEnv} (h : f ρ = .nx ρ') (k : wS N T (g ρ')) : wS N T (sSeq f g ρ) := wS_seq (by rw [h]; exact k)
theorem if_yes {t : BX} {f g : SX} {ρ ρ' : PEnv} (h : t ρ = .ok true ρ') : sIf t f g ρ = f ρ' := by
  unfold sIf
  rw [h]; rfl
theorem if_no {t : BX} {f g : SX} {ρ ρ' : PEnv} (h : t ρ = .ok false ρ') : sIf t f g ρ = g ρ' := by
  unfold sIf
  rw [h]; rfl
theorem fn_of {cs : List Cell} {m : Nat} {f : SX} {P : D → List Cell → Prop} (h : wS (fun ρ => ∃ es, finC cs ρ = some es ∧ P .non es) (fun d ρ => ∃ es, finC cs ρ = some es ∧ P d es) (f (cs ++ List.replicate (m - cs.length) .no))) : ∃ d es, fnN (fnB m f) cs = .ok d es ∧ P d es := by
  unfold fnN fnB
  cases hf : f (cs ++ List.replicate (m - cs.length) .no) with
  | nx ρ =>
    rw [hf] at h
    obtain ⟨es, h1, h2⟩ := h
    exact ⟨.non, es, by simp [h1], h2⟩
  | rt d ρ =>
    rw [hf] at h
    obtain ⟨es, h1, h2⟩ := h
    exact ⟨d, es, by simp [h1], h2⟩
  | _ => rw [hf] at h; exact h.elim
theorem fn_rt {cs es : List Cell} {m : Nat} {f : SX} {d : D} {ρ : PEnv} (h : f (cs ++ List.replicate (m - cs.length) .no) = .rt d ρ) (hf : finC cs ρ = some es) : fnN (fnB m f) cs = .ok d es := by
  unfold fnN fnB
  simp only [h, hf, Rs.nx_ok]
theorem fn_nx {cs es : List Cell} {m : Nat} {f : SX} {ρ : PEnv} (h : f (cs ++ List.replicate (m - cs.length) .no) = .nx ρ) (hf : finC cs ρ = some es) : fnN (fnB m f) cs = .ok .non es := by
  unfold fnN fnB
  simp only [h, hf, Rs.nx_ok]
/-- a loop whose turns keep a fact -/
theorem loop_c {g : TGf} {body : SX} (P : D → Prop) (Q : PEnv → Prop) (hb : ∀ d ρ, P d → Q ρ → ∃ ρ1 ρ2, g d ρ = some ρ1 ∧ body ρ1 = .nx ρ2 ∧ Q ρ2) : ∀ (ds : List D) (ρ : PEnv), (∀ d ∈ ds, P d) → Q ρ → ∃ ρ', loopD g body ds ρ = .nx ρ' ∧ Q ρ'
  | [], ρ, _, h => ⟨ρ, rfl, h⟩
  | d :: ds, ρ, hp, h => by
    obtain ⟨ρ1, ρ2, e1, e2, q⟩ := hb d ρ (hp d List.mem_cons_self) h
    obtain ⟨ρ', e3, q'⟩ := loop_c P Q hb ds ρ2 (fun x hx => hp x (List.mem_cons_of_mem _ hx)) q
    refine ⟨ρ', ?_, q'⟩
    unfold loopD
    rw [e1]
    simp only [e2, e3]
theorem for_ok {it : PEnv → Rs (List D)} {g : TGf} {body : SX} {ρ ρ1 : PEnv} {ds : List D} {r : Sr} (h : it ρ = .ok ds ρ1) (k : loopD g body ds ρ1 = r) : sFor it g body ρ = r := by
  unfold sFor
  rw [h]; exact k
theorem rngD_mem {d : D} {n : Nat} (h : d ∈ rngD 0 n) : ∃ i : Nat, i < n ∧ d = .int i := by
  unfold rngD at h
  obtain ⟨k, hk, rfl⟩ := List.mem_map.mp h
  exact ⟨k, List.mem_range.mp hk, by simp⟩
/-- a loop whose turns all go on -/
theorem loopW {N : PEnv → Prop} {T : D → PEnv → Prop} {g : TGf} {body : SX} (P : Nat → PEnv → Prop) : ∀ (ds : List D) (ρ : PEnv), P 0 ρ → (∀ i d ρ, ds[i]? = some d → P i ρ → ∃ ρ1, g d ρ = some ρ1 ∧ wS (P (i + 1)) T (body ρ1)) → (∀ ρ, P ds.length ρ → N ρ) → wS N T (loopD g body ds ρ)
  | [], ρ, h0, _, hN => hN ρ h0
  | d :: ds, ρ, h0, hs, hN => by
    obtain ⟨ρ1, h1, h2⟩ := hs 0 d ρ rfl h0
    unfold loopD
    rw [h1]
    have ih := fun ρ2 (p : P 1 ρ2) => loopW (N := N) (T := T) (g := g) (body := body) (fun i => P (i + 1)) ds ρ2 p (fun i d' ρ e q => hs (i + 1) d' ρ (by simpa using e) q) hN
    show wS N T (match body ρ1 with
      | .nx ρ2 => loopD g body ds ρ2
      | .ct ρ2 => loopD g body ds ρ2
      | .bk ρ2 => .nx ρ2
      | r => r)
    cases hb : body ρ1 with
    | nx ρ2 => rw [hb] at h2; exact ih ρ2 h2
    | rt d ρ2 => rw [hb] at h2; exact h2
    | rf d ρ2 => rw [hb] at h2; exact h2.elim
    | bk ρ2 => rw [hb] at h2; exact h2.elim
    | ct ρ2 => rw [hb] at h2; exact h2.elim
    | exc c x d ρ2 => rw [hb] at h2; exact h2.elim
    | bad => rw [hb] at h2; exact h2.elim
/-- made of values alone -/
theorem mk_vals {n : Nat} {fn : List Cell → Rs D} {c : Str} {ds dfl : List D} {ks : List Str} {es : List D} (hn : ds.length + 1 + dfl.length = n) (h : fn (.bor (.obj c [] []) :: (ds ++ dfl).map Cell.val) = .ok .non (.bor (.obj c ks es) :: (ds ++ dfl).map Cell.val)) (ρ : PEnv) : mkE n fn c dfl (ds.map Arg.val) ρ = .ok (.ins c ks es) ρ := by
  have hs : ∀ ds : List D, sls (ds.map Arg.val) = [] := fun ds => by induction ds with | nil => rfl | cons d r ih => simpa [sls] using ih
  have hc : ∀ (ds : List D) (ρ : PEnv), cells ρ (ds.map Arg.val) = some (ds.map Cell.val) := fun ds ρ => by induction ds with | nil => rfl | cons d r ih => simp [cells, Arg.cell, ih]
  have hw : ∀ (ds : List D) (r : List D) (ρ : PEnv), wb (ds.map Arg.val) ((ds ++ r).map Cell.val) ρ = some ρ := fun ds r ρ => by induction ds with | nil => rfl | cons d t ih => simpa [wb] using ih
  unfold mkE appF
  rw [if_pos ⟨by simp; omega, by simp [sls, hs]⟩]
  have e : cells (ρ ++ [Cell.own (.obj c [] [])]) (.sl ρ.length :: ds.map Arg.val) = some (.bor (.obj c [] []) :: ds.map Cell.val) := by
    simp [cells, Arg.cell, hc, Cell.mu?]
  have e2 : (Cell.bor (.obj c [] []) :: ds.map Cell.val) ++ dfl.map Cell.val = .bor (.obj c [] []) :: (ds ++ dfl).map Cell.val := by simp
  simp only [e, e2, h]
  have e3 : wb (.sl ρ.length :: ds.map Arg.val) (Cell.bor (.obj c ks es) :: (ds ++ dfl).map Cell.val) (ρ ++ [Cell.own (.obj c [] [])]) = some (ρ ++ [.own (.obj c ks es)]) := by
    simp only [wb]
    simpa [Cell.put] using hw ds dfl (ρ ++ [.own (.obj c ks es)])
  rw [e3]
  simp
end Spk

namespace Spk
open PySem PySem.Spec PyProof.Rows L2
/-! ### draws of the laws over spans -/
def Bg (n : Nat) (m : Mu) : Prop := ∃ x y z w : Int, m = .lst [.int x, .int y, .int z, .int w] ∧ 0 ≤ x ∧ 0 ≤ y ∧ y < 2305843009213693951 ∧ 0 ≤ z ∧ z ≤ 1000000 ∧ 0 ≤ w ∧ w ≤ n
theorem Bg.more {n k : Nat} {m : Mu} (b : Bg n m) (h : n ≤ k) : Bg k m := by
  obtain ⟨x, y, z, w, e, h1, h2, h3, h4, h5, h6, h7⟩ := b
  exact ⟨x, y, z, w, e, h1, h2, h3, h4, h5, h6, by omega⟩
theorem take_ok {n : Nat} {m : Mu} {k : Int} (b : Bg n m) (hn : n ≤ 1000000) (h0 : 0 < k) (hk : k.natAbs < 2 ^ 200) :
    ∃ r m', fn_l_take [.bor m, .val (.int k)] = .ok (.int r) [.bor m', .val (.int k)] ∧ 0 ≤ r ∧ r < k ∧ Bg (n + 1) m' := by
  obtain ⟨x, y, z, w, rfl, x0, y0, y1, z0, z1, w0, w1⟩ := b
  by_cases c : 0 < x
  · refine ⟨x % k, .lst [.int (x / k), .int y, .int z, .int w], ?_, Int.emod_nonneg _ (by omega), Int.emod_lt_of_pos _ h0, _, _, _, _, rfl, Int.ediv_nonneg x0 (by omega), y0, y1, z0, z1, w0, by omega⟩
    unfold fn_l_take sem_l_take
    simp [fnN, fnB, fnBF, sSeq, sRet, sRetF, sRetN, sIf, sSet, sNil, sExpr, sOwn, sPar, sAsg, sMut, sApp, sPut, eVar, eC, eOp, eCall, eAnd, eOr, eNot, eIf, eTup, eFr, fLst, Opd.ev, evs, Arg.dat, dats, vals?, op1, op2, appF, cells, Arg.cell, sls, wb, finC, eChain, bAnd, bOr, bNot, bBl, bTru, truth, lt_ii, le_ii, gt_ii, ge_ii, neg_i, add_ii, sub_ii, max_ii, min_ii, add_ll, add_tt, sizeLine_eq, gTupD, gsCons, gsNil, gSet, notBor_eq, nbO_val, nbO_no, nbO_own, nbO_oc, ix_l, ix_t, Cell.mu?, Cell.lst?, Mu.lst?, len_l, len_t, eIsi, isi_pr, isiD, tyS, List.lookup, gTup_pr, ix_pr0, ix_pr1, at2_0, at2_1, D.fit, D.pure, pures, D.py, pys, PyData.depth, PyData.depthAll, at3_0, at3_1, at3_2, set3_0, set3_1, set3_2, set2_0, set2_1, eq_ii, ne_ii, eq_ss, ne_ss, eq_bb, ne_bb, int_i, abs_i, Cell.put, putAt, len_scr, isN_int, isN_non, oc_mu, oc_noX, nbO_oc, sTry, trS, exS, Sr.out, dropX, noExn, Cell.noX, eXf, eXis, sRaiseB, eMethN, eMethX, noKey, isIns, eConI, eMkKN, eMkKX, eMkX, eMk, eFld, fldD, sFor, fSeq, seqD, eSFld, sFldS, putK, pow6, pow15, pow18, pow20, pow30, pow31, eOpX, eOpN, gSqD, t_l_take_1, at4_0, set4_0, c, mod_ok h0, div_ok h0 hk]
  · have c1 : (y + 7368787 * (w + 1) + z).natAbs < 2 ^ 64 := by omega
    have c2 : (y + 7368787 * (w + 1) + z) ^ 2 % 2305843009213693921 < 2305843009213693921 := Int.emod_lt_of_pos _ (by decide)
    have c3 : 0 ≤ (y + 7368787 * (w + 1) + z) ^ 2 % 2305843009213693921 := Int.emod_nonneg _ (by decide)
    have m1 := mul_ok (i := 7368787) (j := w + 1) (by decide) (by omega)
    have m2 := mul_ok (i := 32452867) (j := w + 1) (by decide) (by omega)
    have p2 := pow2_ok c1
    have d1 := mod_ok (i := (y + 7368787 * (w + 1) + z) ^ 2) (j := 2305843009213693921) (by decide)
    generalize (y + 7368787 * (w + 1) + z) ^ 2 % 2305843009213693921 = u at *
    have p3 := pow3_ok (i := u + 32452867 * (w + 1)) (by omega)
    have d2 := mod_ok (i := (u + 32452867 * (w + 1)) ^ 3) (j := 2305843009213693951) (by decide)
    have d3 := div_ok (i := (u + 32452867 * (w + 1)) ^ 3 % 2305843009213693951) (j := 4096) (by decide) (by decide)
    refine ⟨(u + 32452867 * (w + 1)) ^ 3 % 2305843009213693951 / 4096 % k, .lst [.int x, .int y, .int z, .int (w + 1)], ?_, Int.emod_nonneg _ (by omega), Int.emod_lt_of_pos _ h0, _, _, _, _, rfl, x0, y0, y1, z0, z1, by omega, by omega⟩
    unfold fn_l_take sem_l_take
    simp [fnN, fnB, fnBF, sSeq, sRet, sRetF, sRetN, sIf, sSet, sNil, sExpr, sOwn, sPar, sAsg, sMut, sApp, sPut, eVar, eC, eOp, eCall, eAnd, eOr, eNot, eIf, eTup, eFr, fLst, Opd.ev, evs, Arg.dat, dats, vals?, op1, op2, appF, cells, Arg.cell, sls, wb, finC, eChain, bAnd, bOr, bNot, bBl, bTru, truth, lt_ii, le_ii, gt_ii, ge_ii, neg_i, add_ii, sub_ii, max_ii, min_ii, add_ll, add_tt, sizeLine_eq, gTupD, gsCons, gsNil, gSet, notBor_eq, nbO_val, nbO_no, nbO_own, nbO_oc, ix_l, ix_t, Cell.mu?, Cell.lst?, Mu.lst?, len_l, len_t, eIsi, isi_pr, isiD, tyS, List.lookup, gTup_pr, ix_pr0, ix_pr1, at2_0, at2_1, D.fit, D.pure, pures, D.py, pys, PyData.depth, PyData.depthAll, at3_0, at3_1, at3_2, set3_0, set3_1, set3_2, set2_0, set2_1, eq_ii, ne_ii, eq_ss, ne_ss, eq_bb, ne_bb, int_i, abs_i, Cell.put, putAt, len_scr, isN_int, isN_non, oc_mu, oc_noX, nbO_oc, sTry, trS, exS, Sr.out, dropX, noExn, Cell.noX, eXf, eXis, sRaiseB, eMethN, eMethX, noKey, isIns, eConI, eMkKN, eMkKX, eMkX, eMk, eFld, fldD, sFor, fSeq, seqD, eSFld, sFldS, putK, pow6, pow15, pow18, pow20, pow30, pow31, eOpX, eOpN, gSqD, t_l_take_1, t_l_take_2, t_l_take_3, t_l_take_4, t_l_take_5, at4_0, at4_1, at4_2, at4_3, set4_3, c, mod_ok h0, m1, m2, p2, p3, d1, d2, d3]
theorem edge_ok {n : Nat} {m : Mu} (b : Bg n m) (hn : n ≤ 100000) : ∃ r m', fn_l_edge [.bor m] = .ok (.int r) [.bor m'] ∧ -1000000000000000000000000000000 ≤ r ∧ r ≤ 1000000000000000000000000000000 ∧ Bg (n + 3) m' := by
  obtain ⟨k, m1, e1, k0, k1, b1⟩ := take_ok (k := 8) b (by omega) (by decide) (by decide)
  have mA : mulD (.int 2) (.int 1000000000000000000000000000000) = some (.int (2 * 1000000000000000000000000000000)) := mul_ok (by decide) (by decide)
  by_cases c0 : k = 0
  · obtain ⟨r, m2, e2, r0, r1, b2⟩ := take_ok (k := 2000000000000000000000000000001) b1 (by omega) (by decide) (by decide)
    refine ⟨r - 1000000000000000000000000000000, m2, ?_, by omega, by omega, b2.more (by omega)⟩
    unfold fn_l_edge sem_l_edge
    simp [fnN, fnB, fnBF, sSeq, sRet, sRetF, sRetN, sIf, sSet, sNil, sExpr, sOwn, sPar, sAsg, sMut, sApp, sPut, eVar, eC, eOp, eCall, eAnd, eOr, eNot, eIf, eTup, eFr, fLst, Opd.ev, evs, Arg.dat, dats, vals?, op1, op2, appF, cells, Arg.cell, sls, wb, finC, eChain, bAnd, bOr, bNot, bBl, bTru, truth, lt_ii, le_ii, gt_ii, ge_ii, neg_i, add_ii, sub_ii, max_ii, min_ii, add_ll, add_tt, sizeLine_eq, gTupD, gsCons, gsNil, gSet, notBor_eq, nbO_val, nbO_no, nbO_own, nbO_oc, ix_l, ix_t, Cell.mu?, Cell.lst?, Mu.lst?, len_l, len_t, eIsi, isi_pr, isiD, tyS, List.lookup, gTup_pr, ix_pr0, ix_pr1, at2_0, at2_1, D.fit, D.pure, pures, D.py, pys, PyData.depth, PyData.depthAll, at3_0, at3_1, at3_2, set3_0, set3_1, set3_2, set2_0, set2_1, eq_ii, ne_ii, eq_ss, ne_ss, eq_bb, ne_bb, int_i, abs_i, Cell.put, putAt, len_scr, isN_int, isN_non, oc_mu, oc_noX, nbO_oc, sTry, trS, exS, Sr.out, dropX, noExn, Cell.noX, eXf, eXis, sRaiseB, eMethN, eMethX, noKey, isIns, eConI, eMkKN, eMkKX, eMkX, eMk, eFld, fldD, sFor, fSeq, seqD, eSFld, sFldS, putK, pow6, pow15, pow18, pow20, pow30, pow31, eOpX, eOpN, gSqD, t_l_edge_1, t_l_edge_2, e1, c0, mA, e2]
  by_cases c1 : k = 1
  · obtain ⟨r, m2, e2, r0, r1, b2⟩ := take_ok (k := 3) b1 (by omega) (by decide) (by decide)
    obtain ⟨s, m3, e3, s0, s1, b3⟩ := take_ok (k := 2) b2 (by omega) (by decide) (by decide)
    have mB := mul_ok (i := 2) (j := s) (by decide) (by omega)
    have mC := mul_ok (i := 1000000000000000000000000000000 - r) (j := 1 - 2 * s) (by omega) (by omega)
    have hs : s = 0 ∨ s = 1 := by omega
    refine ⟨(1000000000000000000000000000000 - r) * (1 - 2 * s), m3, ?_, by rcases hs with rfl | rfl <;> omega, by rcases hs with rfl | rfl <;> omega, b3.more (by omega)⟩
    unfold fn_l_edge sem_l_edge
    simp [fnN, fnB, fnBF, sSeq, sRet, sRetF, sRetN, sIf, sSet, sNil, sExpr, sOwn, sPar, sAsg, sMut, sApp, sPut, eVar, eC, eOp, eCall, eAnd, eOr, eNot, eIf, eTup, eFr, fLst, Opd.ev, evs, Arg.dat, dats, vals?, op1, op2, appF, cells, Arg.cell, sls, wb, finC, eChain, bAnd, bOr, bNot, bBl, bTru, truth, lt_ii, le_ii, gt_ii, ge_ii, neg_i, add_ii, sub_ii, max_ii, min_ii, add_ll, add_tt, sizeLine_eq, gTupD, gsCons, gsNil, gSet, notBor_eq, nbO_val, nbO_no, nbO_own, nbO_oc, ix_l, ix_t, Cell.mu?, Cell.lst?, Mu.lst?, len_l, len_t, eIsi, isi_pr, isiD, tyS, List.lookup, gTup_pr, ix_pr0, ix_pr1, at2_0, at2_1, D.fit, D.pure, pures, D.py, pys, PyData.depth, PyData.depthAll, at3_0, at3_1, at3_2, set3_0, set3_1, set3_2, set2_0, set2_1, eq_ii, ne_ii, eq_ss, ne_ss, eq_bb, ne_bb, int_i, abs_i, Cell.put, putAt, len_scr, isN_int, isN_non, oc_mu, oc_noX, nbO_oc, sTry, trS, exS, Sr.out, dropX, noExn, Cell.noX, eXf, eXis, sRaiseB, eMethN, eMethX, noKey, isIns, eConI, eMkKN, eMkKX, eMkX, eMk, eFld, fldD, sFor, fSeq, seqD, eSFld, sFldS, putK, pow6, pow15, pow18, pow20, pow30, pow31, eOpX, eOpN, gSqD, t_l_edge_1, t_l_edge_2, t_l_edge_3, e1, c0, c1, e2, e3, mB, mC]
  · obtain ⟨r, m2, e2, r0, r1, b2⟩ := take_ok (k := 15) b1 (by omega) (by decide) (by decide)
    refine ⟨r - 7, m2, ?_, by omega, by omega, b2.more (by omega)⟩
    unfold fn_l_edge sem_l_edge
    simp [fnN, fnB, fnBF, sSeq, sRet, sRetF, sRetN, sIf, sSet, sNil, sExpr, sOwn, sPar, sAsg, sMut, sApp, sPut, eVar, eC, eOp, eCall, eAnd, eOr, eNot, eIf, eTup, eFr, fLst, Opd.ev, evs, Arg.dat, dats, vals?, op1, op2, appF, cells, Arg.cell, sls, wb, finC, eChain, bAnd, bOr, bNot, bBl, bTru, truth, lt_ii, le_ii, gt_ii, ge_ii, neg_i, add_ii, sub_ii, max_ii, min_ii, add_ll, add_tt, sizeLine_eq, gTupD, gsCons, gsNil, gSet, notBor_eq, nbO_val, nbO_no, nbO_own, nbO_oc, ix_l, ix_t, Cell.mu?, Cell.lst?, Mu.lst?, len_l, len_t, eIsi, isi_pr, isiD, tyS, List.lookup, gTup_pr, ix_pr0, ix_pr1, at2_0, at2_1, D.fit, D.pure, pures, D.py, pys, PyData.depth, PyData.depthAll, at3_0, at3_1, at3_2, set3_0, set3_1, set3_2, set2_0, set2_1, eq_ii, ne_ii, eq_ss, ne_ss, eq_bb, ne_bb, int_i, abs_i, Cell.put, putAt, len_scr, isN_int, isN_non, oc_mu, oc_noX, nbO_oc, sTry, trS, exS, Sr.out, dropX, noExn, Cell.noX, eXf, eXis, sRaiseB, eMethN, eMethX, noKey, isIns, eConI, eMkKN, eMkKX, eMkX, eMk, eFld, fldD, sFor, fSeq, seqD, eSFld, sFldS, putK, pow6, pow15, pow18, pow20, pow30, pow31, eOpX, eOpN, gSqD, t_l_edge_1, t_l_edge_2, t_l_edge_3, t_l_edge_4, e1, c0, c1, e2]
theorem strP_mk {b e : Int} (h1 : b ≤ e) (hb : b = -10000000000000000000000000000000 ∨ (-1000000000000000000000000000000 ≤ b ∧ b ≤ 1000000000000000000000000000000)) (he : e = 10000000000000000000000000000000 ∨ (-1000000000000000000000000000000 ≤ e ∧ e ≤ 1000000000000000000000000000000)) : strP (b, e) = true := by
  unfold strP edgeI
  simp only [Bool.and_eq_true, Bool.or_eq_true, decide_eq_true_eq]
  omega
theorem stretch_ok {n : Nat} {m : Mu} (b : Bg n m) (hn : n ≤ 10000) : ∃ p m', fn_l_stretch [.bor m] = .ok (prT p) [.bor m'] ∧ strP p = true ∧ Bg (n + 8) m' := by
  obtain ⟨i, m1, e1, i0, i1, b1⟩ := edge_ok b (by omega)
  obtain ⟨j, m2, e2, j0, j1, b2⟩ := edge_ok b1 (by omega)
  obtain ⟨k, m3, e3, k0, k1, b3⟩ := take_ok (k := 6) b2 (by omega) (by decide) (by decide)
  obtain ⟨t, m4, e4, t0, t1, b4⟩ := take_ok (k := 16) b3 (by omega) (by decide) (by decide)
  have b5 := b4.more (k := n + 8) (by omega)
  let j' := if k = 0 then i else j
  let lo := if t = 1 ∨ t = 3 then -10000000000000000000000000000000 else if j' < i then j' else i
  let hi := if t = 2 ∨ t = 3 then 10000000000000000000000000000000 else if i < j' then j' else i
  refine ⟨(lo, hi), m4, ?_, ?_, b5⟩
  · unfold fn_l_stretch sem_l_stretch
    by_cases c : k = 0
    · by_cases c1 : t = 1 <;> by_cases c2 : t = 2 <;> by_cases c3 : t = 3 <;> simp [fnN, fnB, fnBF, sSeq, sRet, sRetF, sRetN, sIf, sSet, sNil, sExpr, sOwn, sPar, sAsg, sMut, sApp, sPut, eVar, eC, eOp, eCall, eAnd, eOr, eNot, eIf, eTup, eFr, fLst, Opd.ev, evs, Arg.dat, dats, vals?, op1, op2, appF, cells, Arg.cell, sls, wb, finC, eChain, bAnd, bOr, bNot, bBl, bTru, truth, lt_ii, le_ii, gt_ii, ge_ii, neg_i, add_ii, sub_ii, max_ii, min_ii, add_ll, add_tt, sizeLine_eq, gTupD, gsCons, gsNil, gSet, notBor_eq, nbO_val, nbO_no, nbO_own, nbO_oc, ix_l, ix_t, Cell.mu?, Cell.lst?, Mu.lst?, len_l, len_t, eIsi, isi_pr, isiD, tyS, List.lookup, gTup_pr, ix_pr0, ix_pr1, at2_0, at2_1, D.fit, D.pure, pures, D.py, pys, PyData.depth, PyData.depthAll, at3_0, at3_1, at3_2, set3_0, set3_1, set3_2, set2_0, set2_1, eq_ii, ne_ii, eq_ss, ne_ss, eq_bb, ne_bb, int_i, abs_i, Cell.put, putAt, len_scr, isN_int, isN_non, oc_mu, oc_noX, nbO_oc, sTry, trS, exS, Sr.out, dropX, noExn, Cell.noX, eXf, eXis, sRaiseB, eMethN, eMethX, noKey, isIns, eConI, eMkKN, eMkKX, eMkX, eMk, eFld, fldD, sFor, fSeq, seqD, eSFld, sFldS, putK, pow6, pow15, pow18, pow20, pow30, pow31, eOpX, eOpN, gSqD, t_l_stretch_1, t_l_stretch_2, t_l_stretch_3, t_l_stretch_4, t_l_stretch_5, t_l_stretch_6, t_l_stretch_7, e1, e2, e3, e4, c, c1, c2, c3, lo, hi, j'] <;> omega
    · by_cases c1 : t = 1 <;> by_cases c2 : t = 2 <;> by_cases c3 : t = 3 <;> simp [fnN, fnB, fnBF, sSeq, sRet, sRetF, sRetN, sIf, sSet, sNil, sExpr, sOwn, sPar, sAsg, sMut, sApp, sPut, eVar, eC, eOp, eCall, eAnd, eOr, eNot, eIf, eTup, eFr, fLst, Opd.ev, evs, Arg.dat, dats, vals?, op1, op2, appF, cells, Arg.cell, sls, wb, finC, eChain, bAnd, bOr, bNot, bBl, bTru, truth, lt_ii, le_ii, gt_ii, ge_ii, neg_i, add_ii, sub_ii, max_ii, min_ii, add_ll, add_tt, sizeLine_eq, gTupD, gsCons, gsNil, gSet, notBor_eq, nbO_val, nbO_no, nbO_own, nbO_oc, ix_l, ix_t, Cell.mu?, Cell.lst?, Mu.lst?, len_l, len_t, eIsi, isi_pr, isiD, tyS, List.lookup, gTup_pr, ix_pr0, ix_pr1, at2_0, at2_1, D.fit, D.pure, pures, D.py, pys, PyData.depth, PyData.depthAll, at3_0, at3_1, at3_2, set3_0, set3_1, set3_2, set2_0, set2_1, eq_ii, ne_ii, eq_ss, ne_ss, eq_bb, ne_bb, int_i, abs_i, Cell.put, putAt, len_scr, isN_int, isN_non, oc_mu, oc_noX, nbO_oc, sTry, trS, exS, Sr.out, dropX, noExn, Cell.noX, eXf, eXis, sRaiseB, eMethN, eMethX, noKey, isIns, eConI, eMkKN, eMkKX, eMkX, eMk, eFld, fldD, sFor, fSeq, seqD, eSFld, sFldS, putK, pow6, pow15, pow18, pow20, pow30, pow31, eOpX, eOpN, gSqD, t_l_stretch_1, t_l_stretch_2, t_l_stretch_3, t_l_stretch_4, t_l_stretch_5, t_l_stretch_6, t_l_stretch_7, e1, e2, e3, e4, c, c1, c2, c3, lo, hi, j'] <;> omega
  · have hj : -1000000000000000000000000000000 ≤ j' ∧ j' ≤ 1000000000000000000000000000000 := by
      show _ ≤ (if k = 0 then i else j) ∧ (if k = 0 then i else j) ≤ _
      split <;> omega
    apply strP_mk
    · show (if t = 1 ∨ t = 3 then _ else if j' < i then j' else i) ≤ (if t = 2 ∨ t = 3 then _ else if i < j' then j' else i)
      split <;> split <;> (repeat' split) <;> omega
    · show (if t = 1 ∨ t = 3 then _ else if j' < i then j' else i) = _ ∨ _ ≤ (if t = 1 ∨ t = 3 then _ else if j' < i then j' else i) ∧ (if t = 1 ∨ t = 3 then _ else if j' < i then j' else i) ≤ _
      by_cases c : t = 1 ∨ t = 3
      · left; rw [if_pos c]
      · right; rw [if_neg c]; split <;> omega
    · show (if t = 2 ∨ t = 3 then _ else if i < j' then j' else i) = _ ∨ _ ≤ (if t = 2 ∨ t = 3 then _ else if i < j' then j' else i) ∧ (if t = 2 ∨ t = 3 then _ else if i < j' then j' else i) ≤ _
      by_cases c : t = 2 ∨ t = 3
      · left; rw [if_pos c]
      · right; rw [if_neg c]; split <;> omega
theorem bag_ok {ns : List Int} {i : Nat} (hi : i ≤ 63) : ∃ ds, fn_l_bag [.val (.scr ns), .val (.int i)] = .ok ds [.val (.scr ns), .val (.int i)] ∧ Bg 0 (.lst ds) := by
  let cl : Int := if i < ns.length then ns.getD i 0 else 0
  have m1 := mul_ok (i := 6151) (j := (i : Int)) (by decide) (by omega)
  have d1 := mod_ok (i := cl) (j := 2305843009213693951) (by decide)
  have d2 : cl % 2305843009213693951 < 2305843009213693951 := Int.emod_lt_of_pos _ (by decide)
  have d3 : 0 ≤ cl % 2305843009213693951 := Int.emod_nonneg _ (by decide)
  refine ⟨[.int (if 1000000000000000000 ≤ (if cl < 0 then -cl else cl) then (if cl < 0 then -cl else cl) else 0), .int (cl % 2305843009213693951), .int (6151 * i + 389), .int 0], ?_, _, _, _, _, rfl, by split <;> (try split) <;> omega, d3, d2, by omega, by omega, by omega, by omega⟩
  unfold fn_l_bag sem_l_bag
  by_cases c : i < ns.length
  · have e : ixD (.scr ns) (.int i) = some (.int cl) := by
      show (atI ns (i : Int)).map D.int = _
      have : cl = ns[i] := by
        show (if i < ns.length then ns.getD i 0 else 0) = _
        rw [if_pos c, List.getD_eq_getElem?_getD, List.getElem?_eq_getElem c]; rfl
      rw [at_nat, List.getElem?_eq_getElem c, this]; rfl
    by_cases c2 : 1000000000000000000 ≤ (if cl < 0 then -cl else cl) <;> simp [fnN, fnB, fnBF, sSeq, sRet, sRetF, sRetN, sIf, sSet, sNil, sExpr, sOwn, sPar, sAsg, sMut, sApp, sPut, eVar, eC, eOp, eCall, eAnd, eOr, eNot, eIf, eTup, eFr, fLst, Opd.ev, evs, Arg.dat, dats, vals?, op1, op2, appF, cells, Arg.cell, sls, wb, finC, eChain, bAnd, bOr, bNot, bBl, bTru, truth, lt_ii, le_ii, gt_ii, ge_ii, neg_i, add_ii, sub_ii, max_ii, min_ii, add_ll, add_tt, sizeLine_eq, gTupD, gsCons, gsNil, gSet, notBor_eq, nbO_val, nbO_no, nbO_own, nbO_oc, ix_l, ix_t, Cell.mu?, Cell.lst?, Mu.lst?, len_l, len_t, eIsi, isi_pr, isiD, tyS, List.lookup, gTup_pr, ix_pr0, ix_pr1, at2_0, at2_1, D.fit, D.pure, pures, D.py, pys, PyData.depth, PyData.depthAll, at3_0, at3_1, at3_2, set3_0, set3_1, set3_2, set2_0, set2_1, eq_ii, ne_ii, eq_ss, ne_ss, eq_bb, ne_bb, int_i, abs_i, Cell.put, putAt, len_scr, isN_int, isN_non, oc_mu, oc_noX, nbO_oc, sTry, trS, exS, Sr.out, dropX, noExn, Cell.noX, eXf, eXis, sRaiseB, eMethN, eMethX, noKey, isIns, eConI, eMkKN, eMkKX, eMkX, eMk, eFld, fldD, sFor, fSeq, seqD, eSFld, sFldS, putK, pow6, pow15, pow18, pow20, pow30, pow31, eOpX, eOpN, gSqD, t_l_bag_1, t_l_bag_2, c, e, c2, m1, d1, fLst]
  · have e0 : cl = 0 := if_neg c
    simp [fnN, fnB, fnBF, sSeq, sRet, sRetF, sRetN, sIf, sSet, sNil, sExpr, sOwn, sPar, sAsg, sMut, sApp, sPut, eVar, eC, eOp, eCall, eAnd, eOr, eNot, eIf, eTup, eFr, fLst, Opd.ev, evs, Arg.dat, dats, vals?, op1, op2, appF, cells, Arg.cell, sls, wb, finC, eChain, bAnd, bOr, bNot, bBl, bTru, truth, lt_ii, le_ii, gt_ii, ge_ii, neg_i, add_ii, sub_ii, max_ii, min_ii, add_ll, add_tt, sizeLine_eq, gTupD, gsCons, gsNil, gSet, notBor_eq, nbO_val, nbO_no, nbO_own, nbO_oc, ix_l, ix_t, Cell.mu?, Cell.lst?, Mu.lst?, len_l, len_t, eIsi, isi_pr, isiD, tyS, List.lookup, gTup_pr, ix_pr0, ix_pr1, at2_0, at2_1, D.fit, D.pure, pures, D.py, pys, PyData.depth, PyData.depthAll, at3_0, at3_1, at3_2, set3_0, set3_1, set3_2, set2_0, set2_1, eq_ii, ne_ii, eq_ss, ne_ss, eq_bb, ne_bb, int_i, abs_i, Cell.put, putAt, len_scr, isN_int, isN_non, oc_mu, oc_noX, nbO_oc, sTry, trS, exS, Sr.out, dropX, noExn, Cell.noX, eXf, eXis, sRaiseB, eMethN, eMethX, noKey, isIns, eConI, eMkKN, eMkKX, eMkX, eMk, eFld, fldD, sFor, fSeq, seqD, eSFld, sFldS, putK, pow6, pow15, pow18, pow20, pow30, pow31, eOpX, eOpN, gSqD, t_l_bag_1, t_l_bag_2, c, m1, fLst, e0, mod_ok, mul_ok]
end Spk

namespace Spk
open PySem PySem.Spec PyProof.Rows L2
/-! ### spans -/
@[simp] theorem sb_begin_end : (("begin" : Str) == "end") = false := by decide
@[simp] theorem se_begin_end : (("begin" : Str) = "end") = False := by simp only [eq_iff_iff, iff_false]; decide
@[simp] theorem sb_begin_pair : (("begin" : Str) == "pair") = false := by decide
@[simp] theorem se_begin_pair : (("begin" : Str) = "pair") = False := by simp only [eq_iff_iff, iff_false]; decide
@[simp] theorem sb_begin_far : (("begin" : Str) == "far") = false := by decide
@[simp] theorem se_begin_far : (("begin" : Str) = "far") = False := by simp only [eq_iff_iff, iff_false]; decide
@[simp] theorem sb_begin_made : (("begin" : Str) == "made") = false := by decide
@[simp] theorem se_begin_made : (("begin" : Str) = "made") = False := by simp only [eq_iff_iff, iff_false]; decide
@[simp] theorem sb_begin_wrong : (("begin" : Str) == "wrong") = false := by decide
@[simp] theorem se_begin_wrong : (("begin" : Str) = "wrong") = False := by simp only [eq_iff_iff, iff_false]; decide
@[simp] theorem sb_end_begin : (("end" : Str) == "begin") = false := by decide
@[simp] theorem se_end_begin : (("end" : Str) = "begin") = False := by simp only [eq_iff_iff, iff_false]; decide
@[simp] theorem sb_end_pair : (("end" : Str) == "pair") = false := by decide
@[simp] theorem se_end_pair : (("end" : Str) = "pair") = False := by simp only [eq_iff_iff, iff_false]; decide
@[simp] theorem sb_end_far : (("end" : Str) == "far") = false := by decide
@[simp] theorem se_end_far : (("end" : Str) = "far") = False := by simp only [eq_iff_iff, iff_false]; decide
@[simp] theorem sb_end_made : (("end" : Str) == "made") = false := by decide
@[simp] theorem se_end_made : (("end" : Str) = "made") = False := by simp only [eq_iff_iff, iff_false]; decide
@[simp] theorem sb_end_wrong : (("end" : Str) == "wrong") = false := by decide
@[simp] theorem se_end_wrong : (("end" : Str) = "wrong") = False := by simp only [eq_iff_iff, iff_false]; decide
@[simp] theorem sb_pair_begin : (("pair" : Str) == "begin") = false := by decide
@[simp] theorem se_pair_begin : (("pair" : Str) = "begin") = False := by simp only [eq_iff_iff, iff_false]; decide
@[simp] theorem sb_pair_end : (("pair" : Str) == "end") = false := by decide
@[simp] theorem se_pair_end : (("pair" : Str) = "end") = False := by simp only [eq_iff_iff, iff_false]; decide
@[simp] theorem sb_pair_far : (("pair" : Str) == "far") = false := by decide
@[simp] theorem se_pair_far : (("pair" : Str) = "far") = False := by simp only [eq_iff_iff, iff_false]; decide
@[simp] theorem sb_pair_made : (("pair" : Str) == "made") = false := by decide
@[simp] theorem se_pair_made : (("pair" : Str) = "made") = False := by simp only [eq_iff_iff, iff_false]; decide
@[simp] theorem sb_pair_wrong : (("pair" : Str) == "wrong") = false := by decide
@[simp] theorem se_pair_wrong : (("pair" : Str) = "wrong") = False := by simp only [eq_iff_iff, iff_false]; decide
@[simp] theorem sb_far_begin : (("far" : Str) == "begin") = false := by decide
@[simp] theorem se_far_begin : (("far" : Str) = "begin") = False := by simp only [eq_iff_iff, iff_false]; decide
@[simp] theorem sb_far_end : (("far" : Str) == "end") = false := by decide
@[simp] theorem se_far_end : (("far" : Str) = "end") = False := by simp only [eq_iff_iff, iff_false]; decide
@[simp] theorem sb_far_pair : (("far" : Str) == "pair") = false := by decide
@[simp] theorem se_far_pair : (("far" : Str) = "pair") = False := by simp only [eq_iff_iff, iff_false]; decide
@[simp] theorem sb_far_made : (("far" : Str) == "made") = false := by decide
@[simp] theorem se_far_made : (("far" : Str) = "made") = False := by simp only [eq_iff_iff, iff_false]; decide
@[simp] theorem sb_far_wrong : (("far" : Str) == "wrong") = false := by decide
@[simp] theorem se_far_wrong : (("far" : Str) = "wrong") = False := by simp only [eq_iff_iff, iff_false]; decide
@[simp] theorem sb_made_begin : (("made" : Str) == "begin") = false := by decide
@[simp] theorem se_made_begin : (("made" : Str) = "begin") = False := by simp only [eq_iff_iff, iff_false]; decide
@[simp] theorem sb_made_end : (("made" : Str) == "end") = false := by decide
@[simp] theorem se_made_end : (("made" : Str) = "end") = False := by simp only [eq_iff_iff, iff_false]; decide
@[simp] theorem sb_made_pair : (("made" : Str) == "pair") = false := by decide
@[simp] theorem se_made_pair : (("made" : Str) = "pair") = False := by simp only [eq_iff_iff, iff_false]; decide
@[simp] theorem sb_made_far : (("made" : Str) == "far") = false := by decide
@[simp] theorem se_made_far : (("made" : Str) = "far") = False := by simp only [eq_iff_iff, iff_false]; decide
@[simp] theorem sb_made_wrong : (("made" : Str) == "wrong") = false := by decide
@[simp] theorem se_made_wrong : (("made" : Str) = "wrong") = False := by simp only [eq_iff_iff, iff_false]; decide
@[simp] theorem sb_wrong_begin : (("wrong" : Str) == "begin") = false := by decide
@[simp] theorem se_wrong_begin : (("wrong" : Str) = "begin") = False := by simp only [eq_iff_iff, iff_false]; decide
@[simp] theorem sb_wrong_end : (("wrong" : Str) == "end") = false := by decide
@[simp] theorem se_wrong_end : (("wrong" : Str) = "end") = False := by simp only [eq_iff_iff, iff_false]; decide
@[simp] theorem sb_wrong_pair : (("wrong" : Str) == "pair") = false := by decide
@[simp] theorem se_wrong_pair : (("wrong" : Str) = "pair") = False := by simp only [eq_iff_iff, iff_false]; decide
@[simp] theorem sb_wrong_far : (("wrong" : Str) == "far") = false := by decide
@[simp] theorem se_wrong_far : (("wrong" : Str) = "far") = False := by simp only [eq_iff_iff, iff_false]; decide
@[simp] theorem sb_wrong_made : (("wrong" : Str) == "made") = false := by decide
@[simp] theorem se_wrong_made : (("wrong" : Str) = "made") = False := by simp only [eq_iff_iff, iff_false]; decide
@[simp] theorem sb_BadEdge_BadSpan : (("BadEdge" : Str) == "BadSpan") = false := by decide
@[simp] theorem se_BadEdge_BadSpan : (("BadEdge" : Str) = "BadSpan") = False := by simp only [eq_iff_iff, iff_false]; decide
@[simp] theorem sb_BadEdge_TooFar : (("BadEdge" : Str) == "TooFar") = false := by decide
@[simp] theorem se_BadEdge_TooFar : (("BadEdge" : Str) = "TooFar") = False := by simp only [eq_iff_iff, iff_false]; decide
@[simp] theorem sb_BadSpan_BadEdge : (("BadSpan" : Str) == "BadEdge") = false := by decide
@[simp] theorem se_BadSpan_BadEdge : (("BadSpan" : Str) = "BadEdge") = False := by simp only [eq_iff_iff, iff_false]; decide
@[simp] theorem sb_BadSpan_TooFar : (("BadSpan" : Str) == "TooFar") = false := by decide
@[simp] theorem se_BadSpan_TooFar : (("BadSpan" : Str) = "TooFar") = False := by simp only [eq_iff_iff, iff_false]; decide
@[simp] theorem sb_TooFar_BadEdge : (("TooFar" : Str) == "BadEdge") = false := by decide
@[simp] theorem se_TooFar_BadEdge : (("TooFar" : Str) = "BadEdge") = False := by simp only [eq_iff_iff, iff_false]; decide
@[simp] theorem sb_TooFar_BadSpan : (("TooFar" : Str) == "BadSpan") = false := by decide
@[simp] theorem se_TooFar_BadSpan : (("TooFar" : Str) = "BadSpan") = False := by simp only [eq_iff_iff, iff_false]; decide
abbrev spn (p : Pr) : D := .ins "Span" ["begin", "end"] [.int p.1, .int p.2]
theorem is_number_i (i : Int) : fn_is_number [.val (.int i)] = .ok (.bl true) [.val (.int i)] := rfl
theorem is_edge_i (i : Int) : fn_is_edge [.val (.int i)] = .ok (.bl (edgeI i)) [.val (.int i)] := by
  unfold fn_is_edge sem_is_edge
  by_cases h1 : -1000000000000000000000000000000 ≤ i <;> by_cases h2 : i ≤ 1000000000000000000000000000000 <;> simp [fnN, fnB, fnBF, sSeq, sRet, sRetF, sRetN, sIf, sSet, sNil, sExpr, sOwn, sPar, sAsg, sMut, sApp, sPut, eVar, eC, eOp, eCall, eAnd, eOr, eNot, eIf, eTup, eFr, fLst, Opd.ev, evs, Arg.dat, dats, vals?, op1, op2, appF, cells, Arg.cell, sls, wb, finC, eChain, bAnd, bOr, bNot, bBl, bTru, truth, lt_ii, le_ii, gt_ii, ge_ii, neg_i, add_ii, sub_ii, max_ii, min_ii, add_ll, add_tt, sizeLine_eq, gTupD, gsCons, gsNil, gSet, notBor_eq, nbO_val, nbO_no, nbO_own, nbO_oc, ix_l, ix_t, Cell.mu?, Cell.lst?, Mu.lst?, len_l, len_t, eIsi, isi_pr, isiD, tyS, List.lookup, gTup_pr, ix_pr0, ix_pr1, at2_0, at2_1, D.fit, D.pure, pures, D.py, pys, PyData.depth, PyData.depthAll, at3_0, at3_1, at3_2, set3_0, set3_1, set3_2, set2_0, set2_1, eq_ii, ne_ii, eq_ss, ne_ss, eq_bb, ne_bb, int_i, abs_i, Cell.put, putAt, len_scr, isN_int, isN_non, oc_mu, oc_noX, nbO_oc, sTry, trS, exS, Sr.out, dropX, noExn, Cell.noX, eXf, eXis, sRaiseB, eMethN, eMethX, noKey, isIns, eConI, eMkKN, eMkKX, eMkX, eMk, eFld, fldD, sFor, fSeq, seqD, eSFld, sFldS, putK, pow6, pow15, pow18, pow20, pow30, pow31, eOpX, eOpN, gSqD, t_is_edge_1, is_number_i, h1, h2, edgeI, inD, inG, eqv_i, eq_comm]
theorem is_pair_p (p : Pr) : fn_is_pair [.val (prT p)] = .ok (.bl (edgeI p.1 && edgeI p.2)) [.val (prT p)] := by
  unfold fn_is_pair sem_is_pair
  by_cases h1 : edgeI p.1 = true <;> simp [fnN, fnB, fnBF, sSeq, sRet, sRetF, sRetN, sIf, sSet, sNil, sExpr, sOwn, sPar, sAsg, sMut, sApp, sPut, eVar, eC, eOp, eCall, eAnd, eOr, eNot, eIf, eTup, eFr, fLst, Opd.ev, evs, Arg.dat, dats, vals?, op1, op2, appF, cells, Arg.cell, sls, wb, finC, eChain, bAnd, bOr, bNot, bBl, bTru, truth, lt_ii, le_ii, gt_ii, ge_ii, neg_i, add_ii, sub_ii, max_ii, min_ii, add_ll, add_tt, sizeLine_eq, gTupD, gsCons, gsNil, gSet, notBor_eq, nbO_val, nbO_no, nbO_own, nbO_oc, ix_l, ix_t, Cell.mu?, Cell.lst?, Mu.lst?, len_l, len_t, eIsi, isi_pr, isiD, tyS, List.lookup, gTup_pr, ix_pr0, ix_pr1, at2_0, at2_1, D.fit, D.pure, pures, D.py, pys, PyData.depth, PyData.depthAll, at3_0, at3_1, at3_2, set3_0, set3_1, set3_2, set2_0, set2_1, eq_ii, ne_ii, eq_ss, ne_ss, eq_bb, ne_bb, int_i, abs_i, Cell.put, putAt, len_scr, isN_int, isN_non, oc_mu, oc_noX, nbO_oc, sTry, trS, exS, Sr.out, dropX, noExn, Cell.noX, eXf, eXis, sRaiseB, eMethN, eMethX, noKey, isIns, eConI, eMkKN, eMkKX, eMkX, eMk, eFld, fldD, sFor, fSeq, seqD, eSFld, sFldS, putK, pow6, pow15, pow18, pow20, pow30, pow31, eOpX, eOpN, gSqD, t_is_pair_1, is_edge_i, tb_tuple, h1]
theorem is_stretch_p (p : Pr) : fn_is_stretch [.val (prT p)] = .ok (.bl (strP p)) [.val (prT p)] := by
  unfold fn_is_stretch sem_is_stretch
  by_cases h1 : (edgeI p.1 && edgeI p.2) = true
  · by_cases h2 : p.1 ≤ p.2 <;> by_cases h3 : p.1 < 10000000000000000000000000000000 <;> simp [fnN, fnB, fnBF, sSeq, sRet, sRetF, sRetN, sIf, sSet, sNil, sExpr, sOwn, sPar, sAsg, sMut, sApp, sPut, eVar, eC, eOp, eCall, eAnd, eOr, eNot, eIf, eTup, eFr, fLst, Opd.ev, evs, Arg.dat, dats, vals?, op1, op2, appF, cells, Arg.cell, sls, wb, finC, eChain, bAnd, bOr, bNot, bBl, bTru, truth, lt_ii, le_ii, gt_ii, ge_ii, neg_i, add_ii, sub_ii, max_ii, min_ii, add_ll, add_tt, sizeLine_eq, gTupD, gsCons, gsNil, gSet, notBor_eq, nbO_val, nbO_no, nbO_own, nbO_oc, ix_l, ix_t, Cell.mu?, Cell.lst?, Mu.lst?, len_l, len_t, eIsi, isi_pr, isiD, tyS, List.lookup, gTup_pr, ix_pr0, ix_pr1, at2_0, at2_1, D.fit, D.pure, pures, D.py, pys, PyData.depth, PyData.depthAll, at3_0, at3_1, at3_2, set3_0, set3_1, set3_2, set2_0, set2_1, eq_ii, ne_ii, eq_ss, ne_ss, eq_bb, ne_bb, int_i, abs_i, Cell.put, putAt, len_scr, isN_int, isN_non, oc_mu, oc_noX, nbO_oc, sTry, trS, exS, Sr.out, dropX, noExn, Cell.noX, eXf, eXis, sRaiseB, eMethN, eMethX, noKey, isIns, eConI, eMkKN, eMkKX, eMkX, eMk, eFld, fldD, sFor, fSeq, seqD, eSFld, sFldS, putK, pow6, pow15, pow18, pow20, pow30, pow31, eOpX, eOpN, gSqD, t_is_stretch_1, is_pair_p, strP, h1, h2, h3]
  · simp [fnN, fnB, fnBF, sSeq, sRet, sRetF, sRetN, sIf, sSet, sNil, sExpr, sOwn, sPar, sAsg, sMut, sApp, sPut, eVar, eC, eOp, eCall, eAnd, eOr, eNot, eIf, eTup, eFr, fLst, Opd.ev, evs, Arg.dat, dats, vals?, op1, op2, appF, cells, Arg.cell, sls, wb, finC, eChain, bAnd, bOr, bNot, bBl, bTru, truth, lt_ii, le_ii, gt_ii, ge_ii, neg_i, add_ii, sub_ii, max_ii, min_ii, add_ll, add_tt, sizeLine_eq, gTupD, gsCons, gsNil, gSet, notBor_eq, nbO_val, nbO_no, nbO_own, nbO_oc, ix_l, ix_t, Cell.mu?, Cell.lst?, Mu.lst?, len_l, len_t, eIsi, isi_pr, isiD, tyS, List.lookup, gTup_pr, ix_pr0, ix_pr1, at2_0, at2_1, D.fit, D.pure, pures, D.py, pys, PyData.depth, PyData.depthAll, at3_0, at3_1, at3_2, set3_0, set3_1, set3_2, set2_0, set2_1, eq_ii, ne_ii, eq_ss, ne_ss, eq_bb, ne_bb, int_i, abs_i, Cell.put, putAt, len_scr, isN_int, isN_non, oc_mu, oc_noX, nbO_oc, sTry, trS, exS, Sr.out, dropX, noExn, Cell.noX, eXf, eXis, sRaiseB, eMethN, eMethX, noKey, isIns, eConI, eMkKN, eMkKX, eMkX, eMk, eFld, fldD, sFor, fSeq, seqD, eSFld, sFldS, putK, pow6, pow15, pow18, pow20, pow30, pow31, eOpX, eOpN, gSqD, t_is_stretch_1, is_pair_p, strP, h1]
theorem span_pair (p : Pr) : fn_Span_pair [.val (spn p)] = .ok (prT p) [.val (spn p)] := by
  unfold fn_Span_pair sem_Span_pair
  simp [fnN, fnB, fnBF, sSeq, sRet, sRetF, sRetN, sIf, sSet, sNil, sExpr, sOwn, sPar, sAsg, sMut, sApp, sPut, eVar, eC, eOp, eCall, eAnd, eOr, eNot, eIf, eTup, eFr, fLst, Opd.ev, evs, Arg.dat, dats, vals?, op1, op2, appF, cells, Arg.cell, sls, wb, finC, eChain, bAnd, bOr, bNot, bBl, bTru, truth, lt_ii, le_ii, gt_ii, ge_ii, neg_i, add_ii, sub_ii, max_ii, min_ii, add_ll, add_tt, sizeLine_eq, gTupD, gsCons, gsNil, gSet, notBor_eq, nbO_val, nbO_no, nbO_own, nbO_oc, ix_l, ix_t, Cell.mu?, Cell.lst?, Mu.lst?, len_l, len_t, eIsi, isi_pr, isiD, tyS, List.lookup, gTup_pr, ix_pr0, ix_pr1, at2_0, at2_1, D.fit, D.pure, pures, D.py, pys, PyData.depth, PyData.depthAll, at3_0, at3_1, at3_2, set3_0, set3_1, set3_2, set2_0, set2_1, eq_ii, ne_ii, eq_ss, ne_ss, eq_bb, ne_bb, int_i, abs_i, Cell.put, putAt, len_scr, isN_int, isN_non, oc_mu, oc_noX, nbO_oc, sTry, trS, exS, Sr.out, dropX, noExn, Cell.noX, eXf, eXis, sRaiseB, eMethN, eMethX, noKey, isIns, eConI, eMkKN, eMkKX, eMkX, eMk, eFld, fldD, sFor, fSeq, seqD, eSFld, sFldS, putK, pow6, pow15, pow18, pow20, pow30, pow31, eOpX, eOpN, gSqD, t_Span_pair_1]
theorem strP_e {p : Pr} (h : strP p = true) : edgeI p.1 = true ∧ edgeI p.2 = true := by
  unfold strP at h
  simp only [Bool.and_eq_true] at h
  exact h.1
theorem span_init {p : Pr} (h : strP p = true) : fn_Span_init [.bor (.obj "Span" [] []), .val (.int p.1), .val (.int p.2)] = .ok .non [.bor (.obj "Span" ["begin", "end"] [.int p.1, .int p.2]), .val (.int p.1), .val (.int p.2)] := by
  have := strP_e h
  unfold fn_Span_init sem_Span_init
  simp [fnN, fnB, fnBF, sSeq, sRet, sRetF, sRetN, sIf, sSet, sNil, sExpr, sOwn, sPar, sAsg, sMut, sApp, sPut, eVar, eC, eOp, eCall, eAnd, eOr, eNot, eIf, eTup, eFr, fLst, Opd.ev, evs, Arg.dat, dats, vals?, op1, op2, appF, cells, Arg.cell, sls, wb, finC, eChain, bAnd, bOr, bNot, bBl, bTru, truth, lt_ii, le_ii, gt_ii, ge_ii, neg_i, add_ii, sub_ii, max_ii, min_ii, add_ll, add_tt, sizeLine_eq, gTupD, gsCons, gsNil, gSet, notBor_eq, nbO_val, nbO_no, nbO_own, nbO_oc, ix_l, ix_t, Cell.mu?, Cell.lst?, Mu.lst?, len_l, len_t, eIsi, isi_pr, isiD, tyS, List.lookup, gTup_pr, ix_pr0, ix_pr1, at2_0, at2_1, D.fit, D.pure, pures, D.py, pys, PyData.depth, PyData.depthAll, at3_0, at3_1, at3_2, set3_0, set3_1, set3_2, set2_0, set2_1, eq_ii, ne_ii, eq_ss, ne_ss, eq_bb, ne_bb, int_i, abs_i, Cell.put, putAt, len_scr, isN_int, isN_non, oc_mu, oc_noX, nbO_oc, sTry, trS, exS, Sr.out, dropX, noExn, Cell.noX, eXf, eXis, sRaiseB, eMethN, eMethX, noKey, isIns, eConI, eMkKN, eMkKX, eMkX, eMk, eFld, fldD, sFor, fSeq, seqD, eSFld, sFldS, putK, pow6, pow15, pow18, pow20, pow30, pow31, eOpX, eOpN, gSqD, t_Span_init_1, t_Span_init_2, t_Span_init_3, t_Span_init_4, t_Span_init_5, is_edge_i, is_stretch_p, h, this.1, this.2]
theorem span_made {p : Pr} (h : strP p = true) (ρ : PEnv) : mkE 3 fn_Span_init "Span" [] [.val (.int p.1), .val (.int p.2)] ρ = .ok (spn p) ρ :=
  mk_vals (ds := [.int p.1, .int p.2]) (dfl := []) rfl (span_init h) ρ
/-! ### shifts -/
def opn (i : Int) : Bool := decide (i = -10000000000000000000000000000000) || decide (i = 10000000000000000000000000000000)
def sE (i k : Int) : Int := if opn i = true then i else i + k
def farE (i k : Int) : Bool := !opn i && !(decide (-1000000000000000000000000000000 ≤ i + k) && decide (i + k ≤ 1000000000000000000000000000000))
abbrev sP (p : Pr) (k : Int) : Pr := (sE p.1 k, sE p.2 k)
theorem shifted_edge_ok (i k : Int) : fn_shifted_edge [.val (.int i), .val (.int k)] = if farE i k = true then .exc "TooFar" "edge" (.int (i + k)) [.val (.int i), .val (.int k)] else .ok (.int (sE i k)) [.val (.int i), .val (.int k)] := by
  unfold fn_shifted_edge sem_shifted_edge
  by_cases o1 : i = -10000000000000000000000000000000
  · subst o1; simp [fnN, fnB, fnBF, sSeq, sRet, sRetF, sRetN, sIf, sSet, sNil, sExpr, sOwn, sPar, sAsg, sMut, sApp, sPut, eVar, eC, eOp, eCall, eAnd, eOr, eNot, eIf, eTup, eFr, fLst, Opd.ev, evs, Arg.dat, dats, vals?, op1, op2, appF, cells, Arg.cell, sls, wb, finC, eChain, bAnd, bOr, bNot, bBl, bTru, truth, lt_ii, le_ii, gt_ii, ge_ii, neg_i, add_ii, sub_ii, max_ii, min_ii, add_ll, add_tt, sizeLine_eq, gTupD, gsCons, gsNil, gSet, notBor_eq, nbO_val, nbO_no, nbO_own, nbO_oc, ix_l, ix_t, Cell.mu?, Cell.lst?, Mu.lst?, len_l, len_t, eIsi, isi_pr, isiD, tyS, List.lookup, gTup_pr, ix_pr0, ix_pr1, at2_0, at2_1, D.fit, D.pure, pures, D.py, pys, PyData.depth, PyData.depthAll, at3_0, at3_1, at3_2, set3_0, set3_1, set3_2, set2_0, set2_1, eq_ii, ne_ii, eq_ss, ne_ss, eq_bb, ne_bb, int_i, abs_i, Cell.put, putAt, len_scr, isN_int, isN_non, oc_mu, oc_noX, nbO_oc, sTry, trS, exS, Sr.out, dropX, noExn, Cell.noX, eXf, eXis, sRaiseB, eMethN, eMethX, noKey, isIns, eConI, eMkKN, eMkKX, eMkX, eMk, eFld, fldD, sFor, fSeq, seqD, eSFld, sFldS, putK, pow6, pow15, pow18, pow20, pow30, pow31, eOpX, eOpN, gSqD, t_shifted_edge_1, inD, inG, eqv_i, farE, sE, opn]
  by_cases o2 : i = 10000000000000000000000000000000
  · subst o2; simp [fnN, fnB, fnBF, sSeq, sRet, sRetF, sRetN, sIf, sSet, sNil, sExpr, sOwn, sPar, sAsg, sMut, sApp, sPut, eVar, eC, eOp, eCall, eAnd, eOr, eNot, eIf, eTup, eFr, fLst, Opd.ev, evs, Arg.dat, dats, vals?, op1, op2, appF, cells, Arg.cell, sls, wb, finC, eChain, bAnd, bOr, bNot, bBl, bTru, truth, lt_ii, le_ii, gt_ii, ge_ii, neg_i, add_ii, sub_ii, max_ii, min_ii, add_ll, add_tt, sizeLine_eq, gTupD, gsCons, gsNil, gSet, notBor_eq, nbO_val, nbO_no, nbO_own, nbO_oc, ix_l, ix_t, Cell.mu?, Cell.lst?, Mu.lst?, len_l, len_t, eIsi, isi_pr, isiD, tyS, List.lookup, gTup_pr, ix_pr0, ix_pr1, at2_0, at2_1, D.fit, D.pure, pures, D.py, pys, PyData.depth, PyData.depthAll, at3_0, at3_1, at3_2, set3_0, set3_1, set3_2, set2_0, set2_1, eq_ii, ne_ii, eq_ss, ne_ss, eq_bb, ne_bb, int_i, abs_i, Cell.put, putAt, len_scr, isN_int, isN_non, oc_mu, oc_noX, nbO_oc, sTry, trS, exS, Sr.out, dropX, noExn, Cell.noX, eXf, eXis, sRaiseB, eMethN, eMethX, noKey, isIns, eConI, eMkKN, eMkKX, eMkX, eMk, eFld, fldD, sFor, fSeq, seqD, eSFld, sFldS, putK, pow6, pow15, pow18, pow20, pow30, pow31, eOpX, eOpN, gSqD, t_shifted_edge_1, inD, inG, eqv_i, farE, sE, opn]
  by_cases h1 : -1000000000000000000000000000000 ≤ i + k <;> by_cases h2 : i + k ≤ 1000000000000000000000000000000 <;> simp [fnN, fnB, fnBF, sSeq, sRet, sRetF, sRetN, sIf, sSet, sNil, sExpr, sOwn, sPar, sAsg, sMut, sApp, sPut, eVar, eC, eOp, eCall, eAnd, eOr, eNot, eIf, eTup, eFr, fLst, Opd.ev, evs, Arg.dat, dats, vals?, op1, op2, appF, cells, Arg.cell, sls, wb, finC, eChain, bAnd, bOr, bNot, bBl, bTru, truth, lt_ii, le_ii, gt_ii, ge_ii, neg_i, add_ii, sub_ii, max_ii, min_ii, add_ll, add_tt, sizeLine_eq, gTupD, gsCons, gsNil, gSet, notBor_eq, nbO_val, nbO_no, nbO_own, nbO_oc, ix_l, ix_t, Cell.mu?, Cell.lst?, Mu.lst?, len_l, len_t, eIsi, isi_pr, isiD, tyS, List.lookup, gTup_pr, ix_pr0, ix_pr1, at2_0, at2_1, D.fit, D.pure, pures, D.py, pys, PyData.depth, PyData.depthAll, at3_0, at3_1, at3_2, set3_0, set3_1, set3_2, set2_0, set2_1, eq_ii, ne_ii, eq_ss, ne_ss, eq_bb, ne_bb, int_i, abs_i, Cell.put, putAt, len_scr, isN_int, isN_non, oc_mu, oc_noX, nbO_oc, sTry, trS, exS, Sr.out, dropX, noExn, Cell.noX, eXf, eXis, sRaiseB, eMethN, eMethX, noKey, isIns, eConI, eMkKN, eMkKX, eMkX, eMk, eFld, fldD, sFor, fSeq, seqD, eSFld, sFldS, putK, pow6, pow15, pow18, pow20, pow30, pow31, eOpX, eOpN, gSqD, t_shifted_edge_1, t_shifted_edge_2, t_shifted_edge_3, t_shifted_edge_4, inD, inG, eqv_i, farE, sE, opn, o1, o2, Ne.symm o1, Ne.symm o2, h1, h2]
/-- what is too far, if anything is -/
def farP (p : Pr) (k : Int) : Option Int := if farE p.1 k = true then some (p.1 + k) else if farE p.2 k = true then some (p.2 + k) else none
theorem shifted_ok (p : Pr) (k : Int) : fn_shifted [.val (prT p), .val (.int k)] = match farP p k with
    | some e => .exc "TooFar" "edge" (.int e) [.val (prT p), .val (.int k)]
    | none => .ok (prT (sP p k)) [.val (prT p), .val (.int k)] := by
  have e1 := shifted_edge_ok p.1 k
  have e2 := shifted_edge_ok p.2 k
  unfold fn_shifted sem_shifted farP
  by_cases c1 : farE p.1 k = true
  · rw [if_pos c1] at e1
    simp [fnN, fnB, fnBF, sSeq, sRet, sRetF, sRetN, sIf, sSet, sNil, sExpr, sOwn, sPar, sAsg, sMut, sApp, sPut, eVar, eC, eOp, eCall, eAnd, eOr, eNot, eIf, eTup, eFr, fLst, Opd.ev, evs, Arg.dat, dats, vals?, op1, op2, appF, cells, Arg.cell, sls, wb, finC, eChain, bAnd, bOr, bNot, bBl, bTru, truth, lt_ii, le_ii, gt_ii, ge_ii, neg_i, add_ii, sub_ii, max_ii, min_ii, add_ll, add_tt, sizeLine_eq, gTupD, gsCons, gsNil, gSet, notBor_eq, nbO_val, nbO_no, nbO_own, nbO_oc, ix_l, ix_t, Cell.mu?, Cell.lst?, Mu.lst?, len_l, len_t, eIsi, isi_pr, isiD, tyS, List.lookup, gTup_pr, ix_pr0, ix_pr1, at2_0, at2_1, D.fit, D.pure, pures, D.py, pys, PyData.depth, PyData.depthAll, at3_0, at3_1, at3_2, set3_0, set3_1, set3_2, set2_0, set2_1, eq_ii, ne_ii, eq_ss, ne_ss, eq_bb, ne_bb, int_i, abs_i, Cell.put, putAt, len_scr, isN_int, isN_non, oc_mu, oc_noX, nbO_oc, sTry, trS, exS, Sr.out, dropX, noExn, Cell.noX, eXf, eXis, sRaiseB, eMethN, eMethX, noKey, isIns, eConI, eMkKN, eMkKX, eMkX, eMk, eFld, fldD, sFor, fSeq, seqD, eSFld, sFldS, putK, pow6, pow15, pow18, pow20, pow30, pow31, eOpX, eOpN, gSqD, t_shifted_1, e1, c1, eCallX]
  · rw [if_neg c1] at e1
    by_cases c2 : farE p.2 k = true
    · rw [if_pos c2] at e2
      simp [fnN, fnB, fnBF, sSeq, sRet, sRetF, sRetN, sIf, sSet, sNil, sExpr, sOwn, sPar, sAsg, sMut, sApp, sPut, eVar, eC, eOp, eCall, eAnd, eOr, eNot, eIf, eTup, eFr, fLst, Opd.ev, evs, Arg.dat, dats, vals?, op1, op2, appF, cells, Arg.cell, sls, wb, finC, eChain, bAnd, bOr, bNot, bBl, bTru, truth, lt_ii, le_ii, gt_ii, ge_ii, neg_i, add_ii, sub_ii, max_ii, min_ii, add_ll, add_tt, sizeLine_eq, gTupD, gsCons, gsNil, gSet, notBor_eq, nbO_val, nbO_no, nbO_own, nbO_oc, ix_l, ix_t, Cell.mu?, Cell.lst?, Mu.lst?, len_l, len_t, eIsi, isi_pr, isiD, tyS, List.lookup, gTup_pr, ix_pr0, ix_pr1, at2_0, at2_1, D.fit, D.pure, pures, D.py, pys, PyData.depth, PyData.depthAll, at3_0, at3_1, at3_2, set3_0, set3_1, set3_2, set2_0, set2_1, eq_ii, ne_ii, eq_ss, ne_ss, eq_bb, ne_bb, int_i, abs_i, Cell.put, putAt, len_scr, isN_int, isN_non, oc_mu, oc_noX, nbO_oc, sTry, trS, exS, Sr.out, dropX, noExn, Cell.noX, eXf, eXis, sRaiseB, eMethN, eMethX, noKey, isIns, eConI, eMkKN, eMkKX, eMkX, eMk, eFld, fldD, sFor, fSeq, seqD, eSFld, sFldS, putK, pow6, pow15, pow18, pow20, pow30, pow31, eOpX, eOpN, gSqD, t_shifted_1, e1, e2, c1, c2, eCallX]
    · rw [if_neg c2] at e2
      simp [fnN, fnB, fnBF, sSeq, sRet, sRetF, sRetN, sIf, sSet, sNil, sExpr, sOwn, sPar, sAsg, sMut, sApp, sPut, eVar, eC, eOp, eCall, eAnd, eOr, eNot, eIf, eTup, eFr, fLst, Opd.ev, evs, Arg.dat, dats, vals?, op1, op2, appF, cells, Arg.cell, sls, wb, finC, eChain, bAnd, bOr, bNot, bBl, bTru, truth, lt_ii, le_ii, gt_ii, ge_ii, neg_i, add_ii, sub_ii, max_ii, min_ii, add_ll, add_tt, sizeLine_eq, gTupD, gsCons, gsNil, gSet, notBor_eq, nbO_val, nbO_no, nbO_own, nbO_oc, ix_l, ix_t, Cell.mu?, Cell.lst?, Mu.lst?, len_l, len_t, eIsi, isi_pr, isiD, tyS, List.lookup, gTup_pr, ix_pr0, ix_pr1, at2_0, at2_1, D.fit, D.pure, pures, D.py, pys, PyData.depth, PyData.depthAll, at3_0, at3_1, at3_2, set3_0, set3_1, set3_2, set2_0, set2_1, eq_ii, ne_ii, eq_ss, ne_ss, eq_bb, ne_bb, int_i, abs_i, Cell.put, putAt, len_scr, isN_int, isN_non, oc_mu, oc_noX, nbO_oc, sTry, trS, exS, Sr.out, dropX, noExn, Cell.noX, eXf, eXis, sRaiseB, eMethN, eMethX, noKey, isIns, eConI, eMkKN, eMkKX, eMkX, eMk, eFld, fldD, sFor, fSeq, seqD, eSFld, sFldS, putK, pow6, pow15, pow18, pow20, pow30, pow31, eOpX, eOpN, gSqD, t_shifted_1, e1, e2, c1, c2, eCallX]
theorem sP_str {p : Pr} {k : Int} (h : strP p = true) (hf : farP p k = none) : strP (sP p k) = true := by
  unfold farP at hf
  have c1 : farE p.1 k = false := by
    cases c : farE p.1 k with
    | false => rfl
    | true => rw [if_pos c] at hf; cases hf
  rw [if_neg (by rw [c1]; exact Bool.false_ne_true)] at hf
  have c2 : farE p.2 k = false := by
    cases c : farE p.2 k with
    | false => rfl
    | true => rw [if_pos c] at hf; cases hf
  unfold strP edgeI at h
  unfold farE opn at c1 c2
  simp only [Bool.and_eq_true, Bool.or_eq_true, decide_eq_true_eq] at h
  simp only [Bool.and_eq_false_iff, Bool.not_eq_false', Bool.or_eq_true, Bool.and_eq_true, decide_eq_true_eq] at c1 c2
  have a1 : sE p.1 k = if p.1 = -10000000000000000000000000000000 ∨ p.1 = 10000000000000000000000000000000 then p.1 else p.1 + k := by unfold sE opn; simp only [Bool.or_eq_true, decide_eq_true_eq]
  have a2 : sE p.2 k = if p.2 = -10000000000000000000000000000000 ∨ p.2 = 10000000000000000000000000000000 then p.2 else p.2 + k := by unfold sE opn; simp only [Bool.or_eq_true, decide_eq_true_eq]
  show strP (sE p.1 k, sE p.2 k) = true
  apply strP_mk
  · rw [a1, a2]; split <;> split <;> omega
  · rw [a1]; split <;> omega
  · rw [a2]; split <;> omega
theorem span_add {p : Pr} {k : Int} (h : strP p = true) : fn_Span_add [.val (spn p), .val (.int k)] = match farP p k with
    | some e => .exc "TooFar" "edge" (.int e) [.val (spn p), .val (.int k)]
    | none => .ok (spn (sP p k)) [.val (spn p), .val (.int k)] := by
  have e1 := shifted_ok p k
  have sp := span_pair p
  unfold fn_Span_add sem_Span_add
  cases c : farP p k with
  | some e =>
    rw [c] at e1
    simp [fnN, fnB, fnBF, sSeq, sRet, sRetF, sRetN, sIf, sSet, sNil, sExpr, sOwn, sPar, sAsg, sMut, sApp, sPut, eVar, eC, eOp, eCall, eAnd, eOr, eNot, eIf, eTup, eFr, fLst, Opd.ev, evs, Arg.dat, dats, vals?, op1, op2, appF, cells, Arg.cell, sls, wb, finC, eChain, bAnd, bOr, bNot, bBl, bTru, truth, lt_ii, le_ii, gt_ii, ge_ii, neg_i, add_ii, sub_ii, max_ii, min_ii, add_ll, add_tt, sizeLine_eq, gTupD, gsCons, gsNil, gSet, notBor_eq, nbO_val, nbO_no, nbO_own, nbO_oc, ix_l, ix_t, Cell.mu?, Cell.lst?, Mu.lst?, len_l, len_t, eIsi, isi_pr, isiD, tyS, List.lookup, gTup_pr, ix_pr0, ix_pr1, at2_0, at2_1, D.fit, D.pure, pures, D.py, pys, PyData.depth, PyData.depthAll, at3_0, at3_1, at3_2, set3_0, set3_1, set3_2, set2_0, set2_1, eq_ii, ne_ii, eq_ss, ne_ss, eq_bb, ne_bb, int_i, abs_i, Cell.put, putAt, len_scr, isN_int, isN_non, oc_mu, oc_noX, nbO_oc, sTry, trS, exS, Sr.out, dropX, noExn, Cell.noX, eXf, eXis, sRaiseB, eMethN, eMethX, noKey, isIns, eConI, eMkKN, eMkKX, eMkX, eMk, eFld, fldD, sFor, fSeq, seqD, eSFld, sFldS, putK, pow6, pow15, pow18, pow20, pow30, pow31, eOpX, eOpN, gSqD, t_Span_add_1, t_Span_add_2, t_Span_add_3, is_number_i, eProp, sp, e1, eCallX]
  | none =>
    rw [c] at e1
    have mk := span_made (sP_str h c)
    simp [fnN, fnB, fnBF, sSeq, sRet, sRetF, sRetN, sIf, sSet, sNil, sExpr, sOwn, sPar, sAsg, sMut, sApp, sPut, eVar, eC, eOp, eCall, eAnd, eOr, eNot, eIf, eTup, eFr, fLst, Opd.ev, evs, Arg.dat, dats, vals?, op1, op2, appF, cells, Arg.cell, sls, wb, finC, eChain, bAnd, bOr, bNot, bBl, bTru, truth, lt_ii, le_ii, gt_ii, ge_ii, neg_i, add_ii, sub_ii, max_ii, min_ii, add_ll, add_tt, sizeLine_eq, gTupD, gsCons, gsNil, gSet, notBor_eq, nbO_val, nbO_no, nbO_own, nbO_oc, ix_l, ix_t, Cell.mu?, Cell.lst?, Mu.lst?, len_l, len_t, eIsi, isi_pr, isiD, tyS, List.lookup, gTup_pr, ix_pr0, ix_pr1, at2_0, at2_1, D.fit, D.pure, pures, D.py, pys, PyData.depth, PyData.depthAll, at3_0, at3_1, at3_2, set3_0, set3_1, set3_2, set2_0, set2_1, eq_ii, ne_ii, eq_ss, ne_ss, eq_bb, ne_bb, int_i, abs_i, Cell.put, putAt, len_scr, isN_int, isN_non, oc_mu, oc_noX, nbO_oc, sTry, trS, exS, Sr.out, dropX, noExn, Cell.noX, eXf, eXis, sRaiseB, eMethN, eMethX, noKey, isIns, eConI, eMkKN, eMkKX, eMkX, eMk, eFld, fldD, sFor, fSeq, seqD, eSFld, sFldS, putK, pow6, pow15, pow18, pow20, pow30, pow31, eOpX, eOpN, gSqD, t_Span_add_1, t_Span_add_2, t_Span_add_3, is_number_i, eProp, sp, e1, eCallX, mk]
theorem span_radd {p : Pr} {k : Int} (h : strP p = true) : fn_Span_radd [.val (spn p), .val (.int k)] = match farP p k with
    | some e => .exc "TooFar" "edge" (.int e) [.val (spn p), .val (.int k)]
    | none => .ok (spn (sP p k)) [.val (spn p), .val (.int k)] := by
  have e1 := span_add (k := k) h
  unfold fn_Span_radd sem_Span_radd
  cases c : farP p k with
  | some e =>
    rw [c] at e1
    simp [fnN, fnB, fnBF, sSeq, sRet, sRetF, sRetN, sIf, sSet, sNil, sExpr, sOwn, sPar, sAsg, sMut, sApp, sPut, eVar, eC, eOp, eCall, eAnd, eOr, eNot, eIf, eTup, eFr, fLst, Opd.ev, evs, Arg.dat, dats, vals?, op1, op2, appF, cells, Arg.cell, sls, wb, finC, eChain, bAnd, bOr, bNot, bBl, bTru, truth, lt_ii, le_ii, gt_ii, ge_ii, neg_i, add_ii, sub_ii, max_ii, min_ii, add_ll, add_tt, sizeLine_eq, gTupD, gsCons, gsNil, gSet, notBor_eq, nbO_val, nbO_no, nbO_own, nbO_oc, ix_l, ix_t, Cell.mu?, Cell.lst?, Mu.lst?, len_l, len_t, eIsi, isi_pr, isiD, tyS, List.lookup, gTup_pr, ix_pr0, ix_pr1, at2_0, at2_1, D.fit, D.pure, pures, D.py, pys, PyData.depth, PyData.depthAll, at3_0, at3_1, at3_2, set3_0, set3_1, set3_2, set2_0, set2_1, eq_ii, ne_ii, eq_ss, ne_ss, eq_bb, ne_bb, int_i, abs_i, Cell.put, putAt, len_scr, isN_int, isN_non, oc_mu, oc_noX, nbO_oc, sTry, trS, exS, Sr.out, dropX, noExn, Cell.noX, eXf, eXis, sRaiseB, eMethN, eMethX, noKey, isIns, eConI, eMkKN, eMkKX, eMkX, eMk, eFld, fldD, sFor, fSeq, seqD, eSFld, sFldS, putK, pow6, pow15, pow18, pow20, pow30, pow31, eOpX, eOpN, gSqD, t_Span_radd_1, t_Span_radd_2, is_number_i, tI, isI, e1]
  | none =>
    rw [c] at e1
    simp [fnN, fnB, fnBF, sSeq, sRet, sRetF, sRetN, sIf, sSet, sNil, sExpr, sOwn, sPar, sAsg, sMut, sApp, sPut, eVar, eC, eOp, eCall, eAnd, eOr, eNot, eIf, eTup, eFr, fLst, Opd.ev, evs, Arg.dat, dats, vals?, op1, op2, appF, cells, Arg.cell, sls, wb, finC, eChain, bAnd, bOr, bNot, bBl, bTru, truth, lt_ii, le_ii, gt_ii, ge_ii, neg_i, add_ii, sub_ii, max_ii, min_ii, add_ll, add_tt, sizeLine_eq, gTupD, gsCons, gsNil, gSet, notBor_eq, nbO_val, nbO_no, nbO_own, nbO_oc, ix_l, ix_t, Cell.mu?, Cell.lst?, Mu.lst?, len_l, len_t, eIsi, isi_pr, isiD, tyS, List.lookup, gTup_pr, ix_pr0, ix_pr1, at2_0, at2_1, D.fit, D.pure, pures, D.py, pys, PyData.depth, PyData.depthAll, at3_0, at3_1, at3_2, set3_0, set3_1, set3_2, set2_0, set2_1, eq_ii, ne_ii, eq_ss, ne_ss, eq_bb, ne_bb, int_i, abs_i, Cell.put, putAt, len_scr, isN_int, isN_non, oc_mu, oc_noX, nbO_oc, sTry, trS, exS, Sr.out, dropX, noExn, Cell.noX, eXf, eXis, sRaiseB, eMethN, eMethX, noKey, isIns, eConI, eMkKN, eMkKX, eMkX, eMk, eFld, fldD, sFor, fSeq, seqD, eSFld, sFldS, putK, pow6, pow15, pow18, pow20, pow30, pow31, eOpX, eOpN, gSqD, t_Span_radd_1, t_Span_radd_2, is_number_i, tI, isI, e1]
theorem span_sub {p : Pr} {k : Int} (h : strP p = true) : fn_Span_sub [.val (spn p), .val (.int k)] = match farP p (-k) with
    | some e => .exc "TooFar" "edge" (.int e) [.val (spn p), .val (.int k)]
    | none => .ok (spn (sP p (-k))) [.val (spn p), .val (.int k)] := by
  have e1 := span_add (k := -k) h
  unfold fn_Span_sub sem_Span_sub
  cases c : farP p (-k) with
  | some e =>
    rw [c] at e1
    simp [fnN, fnB, fnBF, sSeq, sRet, sRetF, sRetN, sIf, sSet, sNil, sExpr, sOwn, sPar, sAsg, sMut, sApp, sPut, eVar, eC, eOp, eCall, eAnd, eOr, eNot, eIf, eTup, eFr, fLst, Opd.ev, evs, Arg.dat, dats, vals?, op1, op2, appF, cells, Arg.cell, sls, wb, finC, eChain, bAnd, bOr, bNot, bBl, bTru, truth, lt_ii, le_ii, gt_ii, ge_ii, neg_i, add_ii, sub_ii, max_ii, min_ii, add_ll, add_tt, sizeLine_eq, gTupD, gsCons, gsNil, gSet, notBor_eq, nbO_val, nbO_no, nbO_own, nbO_oc, ix_l, ix_t, Cell.mu?, Cell.lst?, Mu.lst?, len_l, len_t, eIsi, isi_pr, isiD, tyS, List.lookup, gTup_pr, ix_pr0, ix_pr1, at2_0, at2_1, D.fit, D.pure, pures, D.py, pys, PyData.depth, PyData.depthAll, at3_0, at3_1, at3_2, set3_0, set3_1, set3_2, set2_0, set2_1, eq_ii, ne_ii, eq_ss, ne_ss, eq_bb, ne_bb, int_i, abs_i, Cell.put, putAt, len_scr, isN_int, isN_non, oc_mu, oc_noX, nbO_oc, sTry, trS, exS, Sr.out, dropX, noExn, Cell.noX, eXf, eXis, sRaiseB, eMethN, eMethX, noKey, isIns, eConI, eMkKN, eMkKX, eMkX, eMk, eFld, fldD, sFor, fSeq, seqD, eSFld, sFldS, putK, pow6, pow15, pow18, pow20, pow30, pow31, eOpX, eOpN, gSqD, t_Span_sub_1, t_Span_sub_2, is_number_i, tI, isI, e1]
  | none =>
    rw [c] at e1
    simp [fnN, fnB, fnBF, sSeq, sRet, sRetF, sRetN, sIf, sSet, sNil, sExpr, sOwn, sPar, sAsg, sMut, sApp, sPut, eVar, eC, eOp, eCall, eAnd, eOr, eNot, eIf, eTup, eFr, fLst, Opd.ev, evs, Arg.dat, dats, vals?, op1, op2, appF, cells, Arg.cell, sls, wb, finC, eChain, bAnd, bOr, bNot, bBl, bTru, truth, lt_ii, le_ii, gt_ii, ge_ii, neg_i, add_ii, sub_ii, max_ii, min_ii, add_ll, add_tt, sizeLine_eq, gTupD, gsCons, gsNil, gSet, notBor_eq, nbO_val, nbO_no, nbO_own, nbO_oc, ix_l, ix_t, Cell.mu?, Cell.lst?, Mu.lst?, len_l, len_t, eIsi, isi_pr, isiD, tyS, List.lookup, gTup_pr, ix_pr0, ix_pr1, at2_0, at2_1, D.fit, D.pure, pures, D.py, pys, PyData.depth, PyData.depthAll, at3_0, at3_1, at3_2, set3_0, set3_1, set3_2, set2_0, set2_1, eq_ii, ne_ii, eq_ss, ne_ss, eq_bb, ne_bb, int_i, abs_i, Cell.put, putAt, len_scr, isN_int, isN_non, oc_mu, oc_noX, nbO_oc, sTry, trS, exS, Sr.out, dropX, noExn, Cell.noX, eXf, eXis, sRaiseB, eMethN, eMethX, noKey, isIns, eConI, eMkKN, eMkKX, eMkX, eMk, eFld, fldD, sFor, fSeq, seqD, eSFld, sFldS, putK, pow6, pow15, pow18, pow20, pow30, pow31, eOpX, eOpN, gSqD, t_Span_sub_1, t_Span_sub_2, is_number_i, tI, isI, e1]
/-! ### texts -/
theorem repr_ok {d : D} (hp : d.pure = true) (h : Sm d.py) (st : PyData.canLay0 (.str d.py.shown) = true) : reprD d = some (.str d.py.shown) := by
  unfold reprD
  rw [if_pos ⟨hp, h.sh, h.nd, Nat.le_trans h.dp (by decide), h.len, st⟩]
theorem shown_two (i j : Int) : PyData.canLay0 (.str (PyData.tuple [.int i, .int j]).shown) = true := by
  simp only [PyData.shown, PyData.shownAll, tupleText, Str.join]
  exact st_app (st_app (ofS_ok _) (st_app (st_app (ofS_ok _) (ofS_ok _)) (ofS_ok _))) (ofS_ok _)
theorem sm_two {i j : Int} (h1 : -10000000000000000000000000000000 ≤ i ∧ i ≤ 10000000000000000000000000000000) (h2 : -10000000000000000000000000000000 ≤ j ∧ j ≤ 10000000000000000000000000000000) : Sm (.tuple [.int i, .int j]) :=
  sm_tup (smA_cons (sm_int (by omega) (by omega)) (n := 0) (Nat.zero_le _) (k := 0) (Nat.zero_le _) (smA_cons (sm_int (by omega) (by omega)) (Nat.zero_le _) (k := 0) (Nat.zero_le _) smA_nil)) (by decide) (by decide)
theorem strP_in {p : Pr} (h : strP p = true) : (-10000000000000000000000000000000 ≤ p.1 ∧ p.1 ≤ 10000000000000000000000000000000) ∧ (-10000000000000000000000000000000 ≤ p.2 ∧ p.2 ≤ 10000000000000000000000000000000) ∧ p.1 ≤ p.2 := by
  unfold strP edgeI at h
  simp only [Bool.and_eq_true, Bool.or_eq_true, decide_eq_true_eq] at h
  omega
def shI (i : Int) : Str := PyData.shown (.int i)
def shP (p : Pr) : Str := PyData.shown (.tuple [.int p.1, .int p.2])
theorem repr_i {i : Int} (h1 : -1000000000000000000000000000000000000000000000 < i) (h2 : i < 1000000000000000000000000000000000000000000000) : reprD (.int i) = some (.str (shI i)) :=
  repr_ok (d := .int i) rfl (sm_int h1 h2) (by show PyData.canLay0 (.str (PyData.int i).shown) = true; rw [PyData.shown_int]; exact ofS_ok _)
theorem repr_p {p : Pr} (h : strP p = true) : reprD (prT p) = some (.str (shP p)) :=
  repr_ok (d := .tup [.int p.1, .int p.2]) rfl (sm_two (strP_in h).1 (strP_in h).2.1) (shown_two _ _)
def rb (b : Bool) : Str := if b then "True" else "False"
theorem repr_b (b : Bool) : reprD (.bl b) = some (.str (rb b)) := by
  cases b <;> exact repr_ok (d := .bl _) rfl ⟨rfl, rfl, Nat.zero_le _, by decide +kernel, Nat.zero_le _, rfl⟩ (by decide +kernel)
/-- what a shift is due to do -/
def dueD (p : Pr) (k : Int) : D := match farP p k with
  | some e => .tup [.str "far", .str (shI e)]
  | none => .tup [.str "made", .str (shP (sP p k))]
theorem due_ne (p : Pr) (k : Int) : neD (dueD p k) (dueD p k) = some (.bl false) := by
  have e : ∀ a b : Str, neD (.tup [.str a, .str b]) (.tup [.str a, .str b]) = some (.bl false) := by
    intro a b
    unfold neD
    rw [if_pos ⟨rfl, rfl⟩]
    simp [eqv, D.py, pys, PyData.eqv, PyData.eqvAll]
  unfold dueD
  cases farP p k <;> exact e _ _
theorem abs_far (i : Int) : (if i < 0 then -i else i) = 10000000000000000000000000000000 ↔ opn i = true := by
  unfold opn
  simp only [Bool.or_eq_true, decide_eq_true_eq]
  split <;> omega
theorem abs_out (i k : Int) (h : opn i = false) : (1000000000000000000000000000000 < if i + k < 0 then -(i + k) else i + k) ↔ farE i k = true := by
  unfold farE
  simp only [h, Bool.not_false, Bool.true_and, Bool.not_eq_true', Bool.and_eq_false_iff, decide_eq_false_iff_not]
  split <;> omega
theorem far_big {p : Pr} {k e : Int} (h : strP p = true) (hk : -1000000000000000000000000000000000 ≤ k ∧ k ≤ 1000000000000000000000000000000000) (hf : farP p k = some e) : -1000000000000000000000000000000000000000000000 < e ∧ e < 1000000000000000000000000000000000000000000000 := by
  have s := strP_in h
  unfold farP at hf
  split at hf
  · cases hf; omega
  · split at hf
    · cases hf; omega
    · cases hf
/-- a turn of the loop of _law_due -/
theorem due_turn {p : Pr} {k i : Int} {ds : List D} {x3 : Cell} (hl : ds.length < 10) (hb : -1000000000000000000000000000000000000000000000 < i + k ∧ i + k < 1000000000000000000000000000000000000000000000) : b_l_due_1 [.val (prT p), .val (.int k), .own (.lst ds), .val (.int i)] = if farE i k = true then .rt (.tup [.str "far", .str (shI (i + k))]) [.val (prT p), .val (.int k), .own (.lst ds), .val (.int i)] else .nx [.val (prT p), .val (.int k), .own (.lst (ds ++ [.int (sE i k)])), .val (.int i)] := by
  have r := repr_i hb.1 hb.2
  have l : ds.length < 16777216 := by omega
  have a := abs_far i
  cases o : opn i with
  | true =>
    have a' := a.mpr o
    have f : farE i k = false := by unfold farE; rw [o]; rfl
    have s : sE i k = i := by unfold sE; rw [if_pos o]
    simp [fnN, fnB, fnBF, sSeq, sRet, sRetF, sRetN, sIf, sSet, sNil, sExpr, sOwn, sPar, sAsg, sMut, sApp, sPut, eVar, eC, eOp, eCall, eAnd, eOr, eNot, eIf, eTup, eFr, fLst, Opd.ev, evs, Arg.dat, dats, vals?, op1, op2, appF, cells, Arg.cell, sls, wb, finC, eChain, bAnd, bOr, bNot, bBl, bTru, truth, lt_ii, le_ii, gt_ii, ge_ii, neg_i, add_ii, sub_ii, max_ii, min_ii, add_ll, add_tt, sizeLine_eq, gTupD, gsCons, gsNil, gSet, notBor_eq, nbO_val, nbO_no, nbO_own, nbO_oc, ix_l, ix_t, Cell.mu?, Cell.lst?, Mu.lst?, len_l, len_t, eIsi, isi_pr, isiD, tyS, List.lookup, gTup_pr, ix_pr0, ix_pr1, at2_0, at2_1, D.fit, D.pure, pures, D.py, pys, PyData.depth, PyData.depthAll, at3_0, at3_1, at3_2, set3_0, set3_1, set3_2, set2_0, set2_1, eq_ii, ne_ii, eq_ss, ne_ss, eq_bb, ne_bb, int_i, abs_i, Cell.put, putAt, len_scr, isN_int, isN_non, oc_mu, oc_noX, nbO_oc, sTry, trS, exS, Sr.out, dropX, noExn, Cell.noX, eXf, eXis, sRaiseB, eMethN, eMethX, noKey, isIns, eConI, eMkKN, eMkKX, eMkX, eMk, eFld, fldD, sFor, fSeq, seqD, eSFld, sFldS, putK, pow6, pow15, pow18, pow20, pow30, pow31, eOpX, eOpN, gSqD, b_l_due_1, t_l_due_2, a', appG, l, f, s]
  | false =>
    have a' : ¬ (if i < 0 then -i else i) = 10000000000000000000000000000000 := fun z => by rw [a.mp z] at o; cases o
    have b := abs_out i k o
    have s : sE i k = i + k := by unfold sE; rw [if_neg (by rw [o]; exact Bool.false_ne_true)]
    cases f : farE i k with
    | true =>
      have b' := b.mpr f
      simp [fnN, fnB, fnBF, sSeq, sRet, sRetF, sRetN, sIf, sSet, sNil, sExpr, sOwn, sPar, sAsg, sMut, sApp, sPut, eVar, eC, eOp, eCall, eAnd, eOr, eNot, eIf, eTup, eFr, fLst, Opd.ev, evs, Arg.dat, dats, vals?, op1, op2, appF, cells, Arg.cell, sls, wb, finC, eChain, bAnd, bOr, bNot, bBl, bTru, truth, lt_ii, le_ii, gt_ii, ge_ii, neg_i, add_ii, sub_ii, max_ii, min_ii, add_ll, add_tt, sizeLine_eq, gTupD, gsCons, gsNil, gSet, notBor_eq, nbO_val, nbO_no, nbO_own, nbO_oc, ix_l, ix_t, Cell.mu?, Cell.lst?, Mu.lst?, len_l, len_t, eIsi, isi_pr, isiD, tyS, List.lookup, gTup_pr, ix_pr0, ix_pr1, at2_0, at2_1, D.fit, D.pure, pures, D.py, pys, PyData.depth, PyData.depthAll, at3_0, at3_1, at3_2, set3_0, set3_1, set3_2, set2_0, set2_1, eq_ii, ne_ii, eq_ss, ne_ss, eq_bb, ne_bb, int_i, abs_i, Cell.put, putAt, len_scr, isN_int, isN_non, oc_mu, oc_noX, nbO_oc, sTry, trS, exS, Sr.out, dropX, noExn, Cell.noX, eXf, eXis, sRaiseB, eMethN, eMethX, noKey, isIns, eConI, eMkKN, eMkKX, eMkX, eMk, eFld, fldD, sFor, fSeq, seqD, eSFld, sFldS, putK, pow6, pow15, pow18, pow20, pow30, pow31, eOpX, eOpN, gSqD, b_l_due_1, t_l_due_2, a', b', r]
    | false =>
      have b' : ¬ (1000000000000000000000000000000 < if i + k < 0 then -(i + k) else i + k) := fun z => by rw [b.mp z] at f; cases f
      simp [fnN, fnB, fnBF, sSeq, sRet, sRetF, sRetN, sIf, sSet, sNil, sExpr, sOwn, sPar, sAsg, sMut, sApp, sPut, eVar, eC, eOp, eCall, eAnd, eOr, eNot, eIf, eTup, eFr, fLst, Opd.ev, evs, Arg.dat, dats, vals?, op1, op2, appF, cells, Arg.cell, sls, wb, finC, eChain, bAnd, bOr, bNot, bBl, bTru, truth, lt_ii, le_ii, gt_ii, ge_ii, neg_i, add_ii, sub_ii, max_ii, min_ii, add_ll, add_tt, sizeLine_eq, gTupD, gsCons, gsNil, gSet, notBor_eq, nbO_val, nbO_no, nbO_own, nbO_oc, ix_l, ix_t, Cell.mu?, Cell.lst?, Mu.lst?, len_l, len_t, eIsi, isi_pr, isiD, tyS, List.lookup, gTup_pr, ix_pr0, ix_pr1, at2_0, at2_1, D.fit, D.pure, pures, D.py, pys, PyData.depth, PyData.depthAll, at3_0, at3_1, at3_2, set3_0, set3_1, set3_2, set2_0, set2_1, eq_ii, ne_ii, eq_ss, ne_ss, eq_bb, ne_bb, int_i, abs_i, Cell.put, putAt, len_scr, isN_int, isN_non, oc_mu, oc_noX, nbO_oc, sTry, trS, exS, Sr.out, dropX, noExn, Cell.noX, eXf, eXis, sRaiseB, eMethN, eMethX, noKey, isIns, eConI, eMkKN, eMkKX, eMkX, eMk, eFld, fldD, sFor, fSeq, seqD, eSFld, sFldS, putK, pow6, pow15, pow18, pow20, pow30, pow31, eOpX, eOpN, gSqD, b_l_due_1, t_l_due_2, a', b', appG, l, s]
theorem due_ok {p : Pr} {k : Int} (h : strP p = true) (hk : -1000000000000000000000000000000000 ≤ k ∧ k ≤ 1000000000000000000000000000000000) : fn_l_due [.val (prT p), .val (.int k)] = .ok (dueD p k) [.val (prT p), .val (.int k)] := by
  have s := strP_in h
  have T1 := due_turn (p := p) (k := k) (i := p.1) (ds := []) (x3 := .no) (by simp) (by omega)
  have T2 := due_turn (p := p) (k := k) (i := p.2) (ds := [.int (sE p.1 k)]) (x3 := .no) (by simp) (by omega)
  have t1 : t_l_due_1 [.val (prT p), .val (.int k), .no, .no] = .nx [.val (prT p), .val (.int k), .own (.lst []), .no] := by simp [fnN, fnB, fnBF, sSeq, sRet, sRetF, sRetN, sIf, sSet, sNil, sExpr, sOwn, sPar, sAsg, sMut, sApp, sPut, eVar, eC, eOp, eCall, eAnd, eOr, eNot, eIf, eTup, eFr, fLst, Opd.ev, evs, Arg.dat, dats, vals?, op1, op2, appF, cells, Arg.cell, sls, wb, finC, eChain, bAnd, bOr, bNot, bBl, bTru, truth, lt_ii, le_ii, gt_ii, ge_ii, neg_i, add_ii, sub_ii, max_ii, min_ii, add_ll, add_tt, sizeLine_eq, gTupD, gsCons, gsNil, gSet, notBor_eq, nbO_val, nbO_no, nbO_own, nbO_oc, ix_l, ix_t, Cell.mu?, Cell.lst?, Mu.lst?, len_l, len_t, eIsi, isi_pr, isiD, tyS, List.lookup, gTup_pr, ix_pr0, ix_pr1, at2_0, at2_1, D.fit, D.pure, pures, D.py, pys, PyData.depth, PyData.depthAll, at3_0, at3_1, at3_2, set3_0, set3_1, set3_2, set2_0, set2_1, eq_ii, ne_ii, eq_ss, ne_ss, eq_bb, ne_bb, int_i, abs_i, Cell.put, putAt, len_scr, isN_int, isN_non, oc_mu, oc_noX, nbO_oc, sTry, trS, exS, Sr.out, dropX, noExn, Cell.noX, eXf, eXis, sRaiseB, eMethN, eMethX, noKey, isIns, eConI, eMkKN, eMkKX, eMkX, eMk, eFld, fldD, sFor, fSeq, seqD, eSFld, sFldS, putK, pow6, pow15, pow18, pow20, pow30, pow31, eOpX, eOpN, gSqD, t_l_due_1]
  have it : fSeq (eVar 0) [.val (prT p), .val (.int k), .own (.lst []), .no] = .ok [.int p.1, .int p.2] [.val (prT p), .val (.int k), .own (.lst []), .no] := by simp [fnN, fnB, fnBF, sSeq, sRet, sRetF, sRetN, sIf, sSet, sNil, sExpr, sOwn, sPar, sAsg, sMut, sApp, sPut, eVar, eC, eOp, eCall, eAnd, eOr, eNot, eIf, eTup, eFr, fLst, Opd.ev, evs, Arg.dat, dats, vals?, op1, op2, appF, cells, Arg.cell, sls, wb, finC, eChain, bAnd, bOr, bNot, bBl, bTru, truth, lt_ii, le_ii, gt_ii, ge_ii, neg_i, add_ii, sub_ii, max_ii, min_ii, add_ll, add_tt, sizeLine_eq, gTupD, gsCons, gsNil, gSet, notBor_eq, nbO_val, nbO_no, nbO_own, nbO_oc, ix_l, ix_t, Cell.mu?, Cell.lst?, Mu.lst?, len_l, len_t, eIsi, isi_pr, isiD, tyS, List.lookup, gTup_pr, ix_pr0, ix_pr1, at2_0, at2_1, D.fit, D.pure, pures, D.py, pys, PyData.depth, PyData.depthAll, at3_0, at3_1, at3_2, set3_0, set3_1, set3_2, set2_0, set2_1, eq_ii, ne_ii, eq_ss, ne_ss, eq_bb, ne_bb, int_i, abs_i, Cell.put, putAt, len_scr, isN_int, isN_non, oc_mu, oc_noX, nbO_oc, sTry, trS, exS, Sr.out, dropX, noExn, Cell.noX, eXf, eXis, sRaiseB, eMethN, eMethX, noKey, isIns, eConI, eMkKN, eMkKX, eMkX, eMk, eFld, fldD, sFor, fSeq, seqD, eSFld, sFldS, putK, pow6, pow15, pow18, pow20, pow30, pow31, eOpX, eOpN, gSqD]
  have g1 : gSet 3 (.int p.1) [.val (prT p), .val (.int k), .own (.lst []), .no] = some [.val (prT p), .val (.int k), .own (.lst []), .val (.int p.1)] := rfl
  have g2 : ∀ ds, gSet 3 (.int p.2) [.val (prT p), .val (.int k), .own (.lst ds), .val (.int p.1)] = some [.val (prT p), .val (.int k), .own (.lst ds), .val (.int p.2)] := fun _ => rfl
  unfold dueD farP
  by_cases c1 : farE p.1 k = true
  · rw [if_pos c1] at T1
    refine fn_rt (ρ := [.val (prT p), .val (.int k), .own (.lst []), .val (.int p.1)]) ?_ ?_
    · show sem_l_due [.val (prT p), .val (.int k), .no, .no] = _
      unfold sem_l_due sSeq
      have f : t_l_due_3 [.val (prT p), .val (.int k), .own (.lst []), .no] = .rt (.tup [.str "far", .str (shI (p.1 + k))]) [.val (prT p), .val (.int k), .own (.lst []), .val (.int p.1)] := for_ok it (by simp only [loopD, g1, T1])
      simp only [t1, Sr.seq_nx, f]
      rw [if_pos c1]
      rfl
    · rfl
  · rw [if_neg c1] at T1
    by_cases c2 : farE p.2 k = true
    · rw [if_pos c2] at T2
      refine fn_rt (ρ := [.val (prT p), .val (.int k), .own (.lst [.int (sE p.1 k)]), .val (.int p.2)]) ?_ ?_
      · show sem_l_due [.val (prT p), .val (.int k), .no, .no] = _
        unfold sem_l_due sSeq
        have f : t_l_due_3 [.val (prT p), .val (.int k), .own (.lst []), .no] = .rt (.tup [.str "far", .str (shI (p.2 + k))]) [.val (prT p), .val (.int k), .own (.lst [.int (sE p.1 k)]), .val (.int p.2)] := for_ok it (by simp only [loopD, g1, g2, T1, T2, List.nil_append])
        simp only [t1, Sr.seq_nx, f]
        rw [if_neg c1, if_pos c2]
        rfl
      · rfl
    · rw [if_neg c2] at T2
      have fp : farP p k = none := by unfold farP; rw [if_neg c1, if_neg c2]
      have r := repr_p (sP_str h fp)
      refine fn_rt (ρ := [.val (prT p), .val (.int k), .own (.lst [.int (sE p.1 k), .int (sE p.2 k)]), .val (.int p.2)]) ?_ ?_
      · show sem_l_due [.val (prT p), .val (.int k), .no, .no] = _
        unfold sem_l_due sSeq
        have f : t_l_due_3 [.val (prT p), .val (.int k), .own (.lst []), .no] = .nx [.val (prT p), .val (.int k), .own (.lst [.int (sE p.1 k), .int (sE p.2 k)]), .val (.int p.2)] := for_ok it (by simp only [loopD, g1, g2, T1, T2, List.nil_append, List.cons_append])
        have f4 : t_l_due_4 [.val (prT p), .val (.int k), .own (.lst [.int (sE p.1 k), .int (sE p.2 k)]), .val (.int p.2)] = .rt (.tup [.str "made", .str (shP (sP p k))]) [.val (prT p), .val (.int k), .own (.lst [.int (sE p.1 k), .int (sE p.2 k)]), .val (.int p.2)] := by
          simp [fnN, fnB, fnBF, sSeq, sRet, sRetF, sRetN, sIf, sSet, sNil, sExpr, sOwn, sPar, sAsg, sMut, sApp, sPut, eVar, eC, eOp, eCall, eAnd, eOr, eNot, eIf, eTup, eFr, fLst, Opd.ev, evs, Arg.dat, dats, vals?, op1, op2, appF, cells, Arg.cell, sls, wb, finC, eChain, bAnd, bOr, bNot, bBl, bTru, truth, lt_ii, le_ii, gt_ii, ge_ii, neg_i, add_ii, sub_ii, max_ii, min_ii, add_ll, add_tt, sizeLine_eq, gTupD, gsCons, gsNil, gSet, notBor_eq, nbO_val, nbO_no, nbO_own, nbO_oc, ix_l, ix_t, Cell.mu?, Cell.lst?, Mu.lst?, len_l, len_t, eIsi, isi_pr, isiD, tyS, List.lookup, gTup_pr, ix_pr0, ix_pr1, at2_0, at2_1, D.fit, D.pure, pures, D.py, pys, PyData.depth, PyData.depthAll, at3_0, at3_1, at3_2, set3_0, set3_1, set3_2, set2_0, set2_1, eq_ii, ne_ii, eq_ss, ne_ss, eq_bb, ne_bb, int_i, abs_i, Cell.put, putAt, len_scr, isN_int, isN_non, oc_mu, oc_noX, nbO_oc, sTry, trS, exS, Sr.out, dropX, noExn, Cell.noX, eXf, eXis, sRaiseB, eMethN, eMethX, noKey, isIns, eConI, eMkKN, eMkKX, eMkX, eMk, eFld, fldD, sFor, fSeq, seqD, eSFld, sFldS, putK, pow6, pow15, pow18, pow20, pow30, pow31, eOpX, eOpN, gSqD, t_l_due_4, tupD, r]
        simp only [t1, Sr.seq_nx, f, f4]
        rw [if_neg c1, if_neg c2]
      · rfl
/-! ### the ways to shift -/
theorem shifted_due {p : Pr} {k : Int} (h : strP p = true) (hk : -1000000000000000000000000000000000 ≤ k ∧ k ≤ 1000000000000000000000000000000000) {w : Int} (hw : w = 0 ∨ w = 1 ∨ w = 2) : fn_l_shifted [.val (spn p), .val (.int k), .val (.int w)] = .ok (dueD p k) [.val (spn p), .val (.int k), .val (.int w)] := by
  have a := span_add (k := k) h
  have r := span_radd (k := k) h
  have s := span_sub (k := -k) h
  rw [Int.neg_neg] at s
  unfold fn_l_shifted sem_l_shifted dueD
  cases c : farP p k with
  | some e =>
    rw [c] at a r s
    have b := far_big h hk c
    have re := repr_i b.1 b.2
    rcases hw with rfl | rfl | rfl <;> simp [fnN, fnB, fnBF, sSeq, sRet, sRetF, sRetN, sIf, sSet, sNil, sExpr, sOwn, sPar, sAsg, sMut, sApp, sPut, eVar, eC, eOp, eCall, eAnd, eOr, eNot, eIf, eTup, eFr, fLst, Opd.ev, evs, Arg.dat, dats, vals?, op1, op2, appF, cells, Arg.cell, sls, wb, finC, eChain, bAnd, bOr, bNot, bBl, bTru, truth, lt_ii, le_ii, gt_ii, ge_ii, neg_i, add_ii, sub_ii, max_ii, min_ii, add_ll, add_tt, sizeLine_eq, gTupD, gsCons, gsNil, gSet, notBor_eq, nbO_val, nbO_no, nbO_own, nbO_oc, ix_l, ix_t, Cell.mu?, Cell.lst?, Mu.lst?, len_l, len_t, eIsi, isi_pr, isiD, tyS, List.lookup, gTup_pr, ix_pr0, ix_pr1, at2_0, at2_1, D.fit, D.pure, pures, D.py, pys, PyData.depth, PyData.depthAll, at3_0, at3_1, at3_2, set3_0, set3_1, set3_2, set2_0, set2_1, eq_ii, ne_ii, eq_ss, ne_ss, eq_bb, ne_bb, int_i, abs_i, Cell.put, putAt, len_scr, isN_int, isN_non, oc_mu, oc_noX, nbO_oc, sTry, trS, exS, Sr.out, dropX, noExn, Cell.noX, eXf, eXis, sRaiseB, eMethN, eMethX, noKey, isIns, eConI, eMkKN, eMkKX, eMkX, eMk, eFld, fldD, sFor, fSeq, seqD, eSFld, sFldS, putK, pow6, pow15, pow18, pow20, pow30, pow31, eOpX, eOpN, gSqD, t_l_shifted_1, t_l_shifted_2, a, r, s, tI, tJ, isI, re, tbx_TooFar, tbxi_OverflowError]
  | none =>
    rw [c] at a r s
    have rp := repr_p (sP_str h c)
    have sp := span_pair (sP p k)
    rcases hw with rfl | rfl | rfl <;> simp [fnN, fnB, fnBF, sSeq, sRet, sRetF, sRetN, sIf, sSet, sNil, sExpr, sOwn, sPar, sAsg, sMut, sApp, sPut, eVar, eC, eOp, eCall, eAnd, eOr, eNot, eIf, eTup, eFr, fLst, Opd.ev, evs, Arg.dat, dats, vals?, op1, op2, appF, cells, Arg.cell, sls, wb, finC, eChain, bAnd, bOr, bNot, bBl, bTru, truth, lt_ii, le_ii, gt_ii, ge_ii, neg_i, add_ii, sub_ii, max_ii, min_ii, add_ll, add_tt, sizeLine_eq, gTupD, gsCons, gsNil, gSet, notBor_eq, nbO_val, nbO_no, nbO_own, nbO_oc, ix_l, ix_t, Cell.mu?, Cell.lst?, Mu.lst?, len_l, len_t, eIsi, isi_pr, isiD, tyS, List.lookup, gTup_pr, ix_pr0, ix_pr1, at2_0, at2_1, D.fit, D.pure, pures, D.py, pys, PyData.depth, PyData.depthAll, at3_0, at3_1, at3_2, set3_0, set3_1, set3_2, set2_0, set2_1, eq_ii, ne_ii, eq_ss, ne_ss, eq_bb, ne_bb, int_i, abs_i, Cell.put, putAt, len_scr, isN_int, isN_non, oc_mu, oc_noX, nbO_oc, sTry, trS, exS, Sr.out, dropX, noExn, Cell.noX, eXf, eXis, sRaiseB, eMethN, eMethX, noKey, isIns, eConI, eMkKN, eMkKX, eMkX, eMk, eFld, fldD, sFor, fSeq, seqD, eSFld, sFldS, putK, pow6, pow15, pow18, pow20, pow30, pow31, eOpX, eOpN, gSqD, t_l_shifted_1, t_l_shifted_2, a, r, s, tI, tJ, isI, eProp, sp, rp, tb_own, ow_Span]
end Spk

namespace Spk
open PySem PySem.Spec PyProof.Rows L2
theorem seq_nx {f g : SX} {ρ ρ1 : PEnv} (h : f ρ = .nx ρ1) : sSeq f g ρ = g ρ1 := by
  unfold sSeq
  rw [h]; rfl
theorem shift_ok {n : Nat} {m : Mu} {p : Pr} (b : Bg n m) (hn : n ≤ 10000) (h : strP p = true) : ∃ k m', fn_l_shift [.bor m, .val (prT p)] = .ok (.int k) [.bor m', .val (prT p)] ∧ -4000000000000000000000000000000 ≤ k ∧ k ≤ 4000000000000000000000000000000 ∧ Bg (n + 5) m' := by
  obtain ⟨r, m1, e1, r0, r1, b1⟩ := take_ok (k := 5) b (by omega) (by decide) (by decide)
  have mA : mulD (.int 4) (.int 1000000000000000000000000000000) = some (.int (4 * 1000000000000000000000000000000)) := mul_ok (by decide) (by decide)
  have mB : mulD (.int 2) (.int 1000000000000000000000000000000) = some (.int (2 * 1000000000000000000000000000000)) := mul_ok (by decide) (by decide)
  by_cases c0 : r = 0
  · obtain ⟨t, m2, e2, t0, t1, b2⟩ := take_ok (k := 4000000000000000000000000000001) b1 (by omega) (by decide) (by decide)
    refine ⟨t - 2000000000000000000000000000000, m2, ?_, by omega, by omega, b2.more (by omega)⟩
    unfold fn_l_shift sem_l_shift
    simp [fnN, fnB, fnBF, sSeq, sRet, sRetF, sRetN, sIf, sSet, sNil, sExpr, sOwn, sPar, sAsg, sMut, sApp, sPut, eVar, eC, eOp, eCall, eAnd, eOr, eNot, eIf, eTup, eFr, fLst, Opd.ev, evs, Arg.dat, dats, vals?, op1, op2, appF, cells, Arg.cell, sls, wb, finC, eChain, bAnd, bOr, bNot, bBl, bTru, truth, lt_ii, le_ii, gt_ii, ge_ii, neg_i, add_ii, sub_ii, max_ii, min_ii, add_ll, add_tt, sizeLine_eq, gTupD, gsCons, gsNil, gSet, notBor_eq, nbO_val, nbO_no, nbO_own, nbO_oc, ix_l, ix_t, Cell.mu?, Cell.lst?, Mu.lst?, len_l, len_t, eIsi, isi_pr, isiD, tyS, List.lookup, gTup_pr, ix_pr0, ix_pr1, at2_0, at2_1, D.fit, D.pure, pures, D.py, pys, PyData.depth, PyData.depthAll, at3_0, at3_1, at3_2, set3_0, set3_1, set3_2, set2_0, set2_1, eq_ii, ne_ii, eq_ss, ne_ss, eq_bb, ne_bb, int_i, abs_i, Cell.put, putAt, len_scr, isN_int, isN_non, oc_mu, oc_noX, nbO_oc, sTry, trS, exS, Sr.out, dropX, noExn, Cell.noX, eXf, eXis, sRaiseB, eMethN, eMethX, noKey, isIns, eConI, eMkKN, eMkKX, eMkX, eMk, eFld, fldD, sFor, fSeq, seqD, eSFld, sFldS, putK, pow6, pow15, pow18, pow20, pow30, pow31, eOpX, eOpN, gSqD, t_l_shift_1, t_l_shift_2, e1, c0, mA, mB, e2]
  by_cases c1 : r < 3
  · obtain ⟨t, m2, e2, t0, t1, b2⟩ := take_ok (k := 2) b1 (by omega) (by decide) (by decide)
    obtain ⟨u, m3, e3, u0, u1, b3⟩ := take_ok (k := 2) b2 (by omega) (by decide) (by decide)
    obtain ⟨v, m4, e4, v0, v1, b4⟩ := take_ok (k := 2) b3 (by omega) (by decide) (by decide)
    obtain ⟨g, eg, hg⟩ : ∃ g : Int, ixD (prT p) (.int t) = some (.int g) ∧ (g = p.1 ∨ g = p.2) := by
      have : t = 0 ∨ t = 1 := by omega
      rcases this with rfl | rfl
      · exact ⟨_, rfl, .inl rfl⟩
      · exact ⟨_, rfl, .inr rfl⟩
    have eg' : atI [D.int p.1, D.int p.2] t = some (.int g) := eg
    have mC := mul_ok (i := 2) (j := v) (by decide) (by omega)
    have mD := mul_ok (i := 1000000000000000000000000000000 + u) (j := 1 - 2 * v) (by omega) (by omega)
    have hv : v = 0 ∨ v = 1 := by omega
    let nr : Int := if (if g < 0 then -g else g) ≤ 1000000000000000000000000000000 then g else 0
    have n1 : -1000000000000000000000000000000 ≤ nr ∧ nr ≤ 1000000000000000000000000000000 := by
      show _ ≤ ite _ _ _ ∧ ite _ _ _ ≤ _
      split
      · split at * <;> omega
      · omega
    refine ⟨(1000000000000000000000000000000 + u) * (1 - 2 * v) - nr, m4, ?_, by rcases hv with rfl | rfl <;> omega, by rcases hv with rfl | rfl <;> omega, b4.more (by omega)⟩
    unfold fn_l_shift sem_l_shift
    by_cases c2 : (if g < 0 then -g else g) ≤ 1000000000000000000000000000000 <;> simp [fnN, fnB, fnBF, sSeq, sRet, sRetF, sRetN, sIf, sSet, sNil, sExpr, sOwn, sPar, sAsg, sMut, sApp, sPut, eVar, eC, eOp, eCall, eAnd, eOr, eNot, eIf, eTup, eFr, fLst, Opd.ev, evs, Arg.dat, dats, vals?, op1, op2, appF, cells, Arg.cell, sls, wb, finC, eChain, bAnd, bOr, bNot, bBl, bTru, truth, lt_ii, le_ii, gt_ii, ge_ii, neg_i, add_ii, sub_ii, max_ii, min_ii, add_ll, add_tt, sizeLine_eq, gTupD, gsCons, gsNil, gSet, notBor_eq, nbO_val, nbO_no, nbO_own, nbO_oc, ix_l, ix_t, Cell.mu?, Cell.lst?, Mu.lst?, len_l, len_t, eIsi, isi_pr, isiD, tyS, List.lookup, gTup_pr, ix_pr0, ix_pr1, at2_0, at2_1, D.fit, D.pure, pures, D.py, pys, PyData.depth, PyData.depthAll, at3_0, at3_1, at3_2, set3_0, set3_1, set3_2, set2_0, set2_1, eq_ii, ne_ii, eq_ss, ne_ss, eq_bb, ne_bb, int_i, abs_i, Cell.put, putAt, len_scr, isN_int, isN_non, oc_mu, oc_noX, nbO_oc, sTry, trS, exS, Sr.out, dropX, noExn, Cell.noX, eXf, eXis, sRaiseB, eMethN, eMethX, noKey, isIns, eConI, eMkKN, eMkKX, eMkX, eMk, eFld, fldD, sFor, fSeq, seqD, eSFld, sFldS, putK, pow6, pow15, pow18, pow20, pow30, pow31, eOpX, eOpN, gSqD, t_l_shift_1, t_l_shift_2, t_l_shift_3, e1, c0, c1, e2, e3, e4, eg', mC, mD, c2, nr]
  · obtain ⟨t, m2, e2, t0, t1, b2⟩ := take_ok (k := 21) b1 (by omega) (by decide) (by decide)
    refine ⟨t - 10, m2, ?_, by omega, by omega, b2.more (by omega)⟩
    unfold fn_l_shift sem_l_shift
    simp [fnN, fnB, fnBF, sSeq, sRet, sRetF, sRetN, sIf, sSet, sNil, sExpr, sOwn, sPar, sAsg, sMut, sApp, sPut, eVar, eC, eOp, eCall, eAnd, eOr, eNot, eIf, eTup, eFr, fLst, Opd.ev, evs, Arg.dat, dats, vals?, op1, op2, appF, cells, Arg.cell, sls, wb, finC, eChain, bAnd, bOr, bNot, bBl, bTru, truth, lt_ii, le_ii, gt_ii, ge_ii, neg_i, add_ii, sub_ii, max_ii, min_ii, add_ll, add_tt, sizeLine_eq, gTupD, gsCons, gsNil, gSet, notBor_eq, nbO_val, nbO_no, nbO_own, nbO_oc, ix_l, ix_t, Cell.mu?, Cell.lst?, Mu.lst?, len_l, len_t, eIsi, isi_pr, isiD, tyS, List.lookup, gTup_pr, ix_pr0, ix_pr1, at2_0, at2_1, D.fit, D.pure, pures, D.py, pys, PyData.depth, PyData.depthAll, at3_0, at3_1, at3_2, set3_0, set3_1, set3_2, set2_0, set2_1, eq_ii, ne_ii, eq_ss, ne_ss, eq_bb, ne_bb, int_i, abs_i, Cell.put, putAt, len_scr, isN_int, isN_non, oc_mu, oc_noX, nbO_oc, sTry, trS, exS, Sr.out, dropX, noExn, Cell.noX, eXf, eXis, sRaiseB, eMethN, eMethX, noKey, isIns, eConI, eMkKN, eMkKX, eMkX, eMk, eFld, fldD, sFor, fSeq, seqD, eSFld, sFldS, putK, pow6, pow15, pow18, pow20, pow30, pow31, eOpX, eOpN, gSqD, t_l_shift_1, t_l_shift_2, t_l_shift_3, t_l_shift_4, e1, c0, c1, e2]
theorem is_moment_i (i : Int) : fn_is_moment [.val (.int i)] = .ok (.bl (decide (-10000000000000000000000000000000 < i) && decide (i < 10000000000000000000000000000000))) [.val (.int i)] := by
  unfold fn_is_moment sem_is_moment
  by_cases h1 : -10000000000000000000000000000000 < i <;> by_cases h2 : i < 10000000000000000000000000000000 <;> simp [fnN, fnB, fnBF, sSeq, sRet, sRetF, sRetN, sIf, sSet, sNil, sExpr, sOwn, sPar, sAsg, sMut, sApp, sPut, eVar, eC, eOp, eCall, eAnd, eOr, eNot, eIf, eTup, eFr, fLst, Opd.ev, evs, Arg.dat, dats, vals?, op1, op2, appF, cells, Arg.cell, sls, wb, finC, eChain, bAnd, bOr, bNot, bBl, bTru, truth, lt_ii, le_ii, gt_ii, ge_ii, neg_i, add_ii, sub_ii, max_ii, min_ii, add_ll, add_tt, sizeLine_eq, gTupD, gsCons, gsNil, gSet, notBor_eq, nbO_val, nbO_no, nbO_own, nbO_oc, ix_l, ix_t, Cell.mu?, Cell.lst?, Mu.lst?, len_l, len_t, eIsi, isi_pr, isiD, tyS, List.lookup, gTup_pr, ix_pr0, ix_pr1, at2_0, at2_1, D.fit, D.pure, pures, D.py, pys, PyData.depth, PyData.depthAll, at3_0, at3_1, at3_2, set3_0, set3_1, set3_2, set2_0, set2_1, eq_ii, ne_ii, eq_ss, ne_ss, eq_bb, ne_bb, int_i, abs_i, Cell.put, putAt, len_scr, isN_int, isN_non, oc_mu, oc_noX, nbO_oc, sTry, trS, exS, Sr.out, dropX, noExn, Cell.noX, eXf, eXis, sRaiseB, eMethN, eMethX, noKey, isIns, eConI, eMkKN, eMkKX, eMkX, eMk, eFld, fldD, sFor, fSeq, seqD, eSFld, sFldS, putK, pow6, pow15, pow18, pow20, pow30, pow31, eOpX, eOpN, gSqD, t_is_moment_1, is_number_i, h1, h2]
def hasM (p : Pr) (i : Int) : Bool := (decide (-10000000000000000000000000000000 < i) && decide (i < 10000000000000000000000000000000)) && (decide (p.1 ≤ i) && decide (i < p.2))
theorem contains_i (p : Pr) (i : Int) : fn_Span_contains [.val (spn p), .val (.int i)] = .ok (.bl (hasM p i)) [.val (spn p), .val (.int i)] := by
  have e := is_moment_i i
  unfold fn_Span_contains sem_Span_contains hasM
  cases c : (decide (-10000000000000000000000000000000 < i) && decide (i < 10000000000000000000000000000000)) with
  | false =>
    rw [c] at e
    simp [fnN, fnB, fnBF, sSeq, sRet, sRetF, sRetN, sIf, sSet, sNil, sExpr, sOwn, sPar, sAsg, sMut, sApp, sPut, eVar, eC, eOp, eCall, eAnd, eOr, eNot, eIf, eTup, eFr, fLst, Opd.ev, evs, Arg.dat, dats, vals?, op1, op2, appF, cells, Arg.cell, sls, wb, finC, eChain, bAnd, bOr, bNot, bBl, bTru, truth, lt_ii, le_ii, gt_ii, ge_ii, neg_i, add_ii, sub_ii, max_ii, min_ii, add_ll, add_tt, sizeLine_eq, gTupD, gsCons, gsNil, gSet, notBor_eq, nbO_val, nbO_no, nbO_own, nbO_oc, ix_l, ix_t, Cell.mu?, Cell.lst?, Mu.lst?, len_l, len_t, eIsi, isi_pr, isiD, tyS, List.lookup, gTup_pr, ix_pr0, ix_pr1, at2_0, at2_1, D.fit, D.pure, pures, D.py, pys, PyData.depth, PyData.depthAll, at3_0, at3_1, at3_2, set3_0, set3_1, set3_2, set2_0, set2_1, eq_ii, ne_ii, eq_ss, ne_ss, eq_bb, ne_bb, int_i, abs_i, Cell.put, putAt, len_scr, isN_int, isN_non, oc_mu, oc_noX, nbO_oc, sTry, trS, exS, Sr.out, dropX, noExn, Cell.noX, eXf, eXis, sRaiseB, eMethN, eMethX, noKey, isIns, eConI, eMkKN, eMkKX, eMkX, eMk, eFld, fldD, sFor, fSeq, seqD, eSFld, sFldS, putK, pow6, pow15, pow18, pow20, pow30, pow31, eOpX, eOpN, gSqD, t_Span_contains_1, e]
  | true =>
    rw [c] at e
    by_cases h1 : p.1 ≤ i <;> by_cases h2 : i < p.2 <;> simp [fnN, fnB, fnBF, sSeq, sRet, sRetF, sRetN, sIf, sSet, sNil, sExpr, sOwn, sPar, sAsg, sMut, sApp, sPut, eVar, eC, eOp, eCall, eAnd, eOr, eNot, eIf, eTup, eFr, fLst, Opd.ev, evs, Arg.dat, dats, vals?, op1, op2, appF, cells, Arg.cell, sls, wb, finC, eChain, bAnd, bOr, bNot, bBl, bTru, truth, lt_ii, le_ii, gt_ii, ge_ii, neg_i, add_ii, sub_ii, max_ii, min_ii, add_ll, add_tt, sizeLine_eq, gTupD, gsCons, gsNil, gSet, notBor_eq, nbO_val, nbO_no, nbO_own, nbO_oc, ix_l, ix_t, Cell.mu?, Cell.lst?, Mu.lst?, len_l, len_t, eIsi, isi_pr, isiD, tyS, List.lookup, gTup_pr, ix_pr0, ix_pr1, at2_0, at2_1, D.fit, D.pure, pures, D.py, pys, PyData.depth, PyData.depthAll, at3_0, at3_1, at3_2, set3_0, set3_1, set3_2, set2_0, set2_1, eq_ii, ne_ii, eq_ss, ne_ss, eq_bb, ne_bb, int_i, abs_i, Cell.put, putAt, len_scr, isN_int, isN_non, oc_mu, oc_noX, nbO_oc, sTry, trS, exS, Sr.out, dropX, noExn, Cell.noX, eXf, eXis, sRaiseB, eMethN, eMethX, noKey, isIns, eConI, eMkKN, eMkKX, eMkX, eMk, eFld, fldD, sFor, fSeq, seqD, eSFld, sFldS, putK, pow6, pow15, pow18, pow20, pow30, pow31, eOpX, eOpN, gSqD, t_Span_contains_1, e, h1, h2]
theorem in_i (p : Pr) (i : Int) : inB "Span" fn_Span_contains (.int i) (spn p) = some (.bl (hasM p i)) := by
  unfold inB ans2
  rw [if_pos (show isIns "Span" (spn p) = true from rfl), contains_i]; rfl
theorem eq_self (p : Pr) : ownEq "Span" ["Span"] fn_Span_eq (spn p) (spn p) = some (.bl true) := by
  have e : fn_Span_eq [.val (spn p), .val (spn p)] = .ok (.bl true) [.val (spn p), .val (spn p)] := by
    unfold fn_Span_eq sem_Span_eq
    simp [fnN, fnB, fnBF, sSeq, sRet, sRetF, sRetN, sIf, sSet, sNil, sExpr, sOwn, sPar, sAsg, sMut, sApp, sPut, eVar, eC, eOp, eCall, eAnd, eOr, eNot, eIf, eTup, eFr, fLst, Opd.ev, evs, Arg.dat, dats, vals?, op1, op2, appF, cells, Arg.cell, sls, wb, finC, eChain, bAnd, bOr, bNot, bBl, bTru, truth, lt_ii, le_ii, gt_ii, ge_ii, neg_i, add_ii, sub_ii, max_ii, min_ii, add_ll, add_tt, sizeLine_eq, gTupD, gsCons, gsNil, gSet, notBor_eq, nbO_val, nbO_no, nbO_own, nbO_oc, ix_l, ix_t, Cell.mu?, Cell.lst?, Mu.lst?, len_l, len_t, eIsi, isi_pr, isiD, tyS, List.lookup, gTup_pr, ix_pr0, ix_pr1, at2_0, at2_1, D.fit, D.pure, pures, D.py, pys, PyData.depth, PyData.depthAll, at3_0, at3_1, at3_2, set3_0, set3_1, set3_2, set2_0, set2_1, eq_ii, ne_ii, eq_ss, ne_ss, eq_bb, ne_bb, int_i, abs_i, Cell.put, putAt, len_scr, isN_int, isN_non, oc_mu, oc_noX, nbO_oc, sTry, trS, exS, Sr.out, dropX, noExn, Cell.noX, eXf, eXis, sRaiseB, eMethN, eMethX, noKey, isIns, eConI, eMkKN, eMkKX, eMkX, eMk, eFld, fldD, sFor, fSeq, seqD, eSFld, sFldS, putK, pow6, pow15, pow18, pow20, pow30, pow31, eOpX, eOpN, gSqD, t_Span_eq_1, tb_own, ow_Span]
  unfold ownEq ans2
  rw [if_pos ⟨rfl, rfl⟩, e]; rfl
theorem back_e {i k : Int} (h : edgeI i = true) (hf : farE i k = false) : farE (sE i k) (-k) = false ∧ sE (sE i k) (-k) = i := by
  unfold edgeI at h
  simp only [Bool.or_eq_true, Bool.and_eq_true, decide_eq_true_eq] at h
  cases o : opn i with
  | true =>
    have s : sE i k = i := by unfold sE; rw [if_pos o]
    rw [s]
    exact ⟨by unfold farE; rw [o]; rfl, by unfold sE; rw [if_pos o]⟩
  | false =>
    have s : sE i k = i + k := by unfold sE; rw [if_neg (by rw [o]; exact Bool.false_ne_true)]
    rw [s]
    unfold farE at hf
    unfold opn at o hf
    simp only [Bool.or_eq_false_iff, decide_eq_false_iff_not, Bool.and_eq_false_iff, Bool.not_eq_false', Bool.or_eq_true, Bool.and_eq_true, decide_eq_true_eq] at o hf
    have o2 : opn (i + k) = false := by
      unfold opn
      simp only [Bool.or_eq_false_iff, decide_eq_false_iff_not]
      omega
    refine ⟨?_, by unfold sE; rw [if_neg (by rw [o2]; exact Bool.false_ne_true)]; omega⟩
    unfold farE
    rw [o2]
    simp only [Bool.not_false, Bool.true_and, Bool.not_eq_false', Bool.and_eq_true, decide_eq_true_eq]
    omega
theorem far_none {p : Pr} {k : Int} (hf : farP p k = none) : farE p.1 k = false ∧ farE p.2 k = false := by
  unfold farP at hf
  cases c1 : farE p.1 k with
  | true => rw [if_pos c1] at hf; cases hf
  | false =>
    cases c2 : farE p.2 k with
    | true => rw [if_neg (by rw [c1]; exact Bool.false_ne_true), if_pos c2] at hf; cases hf
    | false => exact ⟨rfl, rfl⟩
theorem back_p {p : Pr} {k : Int} (h : strP p = true) (hf : farP p k = none) : farP (sP p k) (-k) = none ∧ sP (sP p k) (-k) = p := by
  have e := strP_e h
  have f := far_none hf
  have b1 := back_e e.1 f.1
  have b2 := back_e e.2 f.2
  refine ⟨?_, by show (sE (sE p.1 k) (-k), sE (sE p.2 k) (-k)) = p; rw [b1.2, b2.2]⟩
  unfold farP
  show (if farE (sE p.1 k) (-k) = true then _ else if farE (sE p.2 k) (-k) = true then _ else _) = _
  rw [b1.1, b2.1]; rfl
/-! ### the law -/
def EL (ns : List Int) (i : Int) (m : Mu) (p : Pr) (c5 c6 c7 c8 c9 c10 c11 c12 : Cell) : PEnv := [.val (.scr ns), .val (.int i), .own m, .val (prT p), .val (spn p), c5, c6, c7, c8, c9, c10, c11, c12, .no]
section
variable {ns : List Int} {i : Int} {m : Mu} {p : Pr} {k : Int} {o6 o7 o8 o9 o10 o11 o12 : Option D} {c6 c7 c8 c9 c10 c11 c12 : Cell}
theorem l4 (h : strP p = true) (hk : -4000000000000000000000000000000 ≤ k ∧ k ≤ 4000000000000000000000000000000) : t_law_4 (EL ns i m p (.val (.int k)) (oc o6) c7 c8 c9 c10 c11 c12) = .nx (EL ns i m p (.val (.int k)) (.val (dueD p k)) c7 c8 c9 c10 c11 c12) := by
  have e := due_ok (k := k) h (by omega)
  simp [fnN, fnB, fnBF, sSeq, sRet, sRetF, sRetN, sIf, sSet, sNil, sExpr, sOwn, sPar, sAsg, sMut, sApp, sPut, eVar, eC, eOp, eCall, eAnd, eOr, eNot, eIf, eTup, eFr, fLst, Opd.ev, evs, Arg.dat, dats, vals?, op1, op2, appF, cells, Arg.cell, sls, wb, finC, eChain, bAnd, bOr, bNot, bBl, bTru, truth, lt_ii, le_ii, gt_ii, ge_ii, neg_i, add_ii, sub_ii, max_ii, min_ii, add_ll, add_tt, sizeLine_eq, gTupD, gsCons, gsNil, gSet, notBor_eq, nbO_val, nbO_no, nbO_own, nbO_oc, ix_l, ix_t, Cell.mu?, Cell.lst?, Mu.lst?, len_l, len_t, eIsi, isi_pr, isiD, tyS, List.lookup, gTup_pr, ix_pr0, ix_pr1, at2_0, at2_1, D.fit, D.pure, pures, D.py, pys, PyData.depth, PyData.depthAll, at3_0, at3_1, at3_2, set3_0, set3_1, set3_2, set2_0, set2_1, eq_ii, ne_ii, eq_ss, ne_ss, eq_bb, ne_bb, int_i, abs_i, Cell.put, putAt, len_scr, isN_int, isN_non, oc_mu, oc_noX, nbO_oc, sTry, trS, exS, Sr.out, dropX, noExn, Cell.noX, eXf, eXis, sRaiseB, eMethN, eMethX, noKey, isIns, eConI, eMkKN, eMkKX, eMkX, eMk, eFld, fldD, sFor, fSeq, seqD, eSFld, sFldS, putK, pow6, pow15, pow18, pow20, pow30, pow31, eOpX, eOpN, gSqD, t_law_4, EL, e]
theorem l5 (h : strP p = true) (hk : -4000000000000000000000000000000 ≤ k ∧ k ≤ 4000000000000000000000000000000) {w : Int} (hw : w = 0 ∨ w = 1 ∨ w = 2) : b_law_1 (EL ns i m p (.val (.int k)) (.val (dueD p k)) (.val (.int w)) c8 c9 c10 c11 c12) = .nx (EL ns i m p (.val (.int k)) (.val (dueD p k)) (.val (.int w)) c8 c9 c10 c11 c12) := by
  have e := shifted_due (k := k) h (by omega) hw
  have d := due_ne p k
  have r := repr_p h
  simp [fnN, fnB, fnBF, sSeq, sRet, sRetF, sRetN, sIf, sSet, sNil, sExpr, sOwn, sPar, sAsg, sMut, sApp, sPut, eVar, eC, eOp, eCall, eAnd, eOr, eNot, eIf, eTup, eFr, fLst, Opd.ev, evs, Arg.dat, dats, vals?, op1, op2, appF, cells, Arg.cell, sls, wb, finC, eChain, bAnd, bOr, bNot, bBl, bTru, truth, lt_ii, le_ii, gt_ii, ge_ii, neg_i, add_ii, sub_ii, max_ii, min_ii, add_ll, add_tt, sizeLine_eq, gTupD, gsCons, gsNil, gSet, notBor_eq, nbO_val, nbO_no, nbO_own, nbO_oc, ix_l, ix_t, Cell.mu?, Cell.lst?, Mu.lst?, len_l, len_t, eIsi, isi_pr, isiD, tyS, List.lookup, gTup_pr, ix_pr0, ix_pr1, at2_0, at2_1, D.fit, D.pure, pures, D.py, pys, PyData.depth, PyData.depthAll, at3_0, at3_1, at3_2, set3_0, set3_1, set3_2, set2_0, set2_1, eq_ii, ne_ii, eq_ss, ne_ss, eq_bb, ne_bb, int_i, abs_i, Cell.put, putAt, len_scr, isN_int, isN_non, oc_mu, oc_noX, nbO_oc, sTry, trS, exS, Sr.out, dropX, noExn, Cell.noX, eXf, eXis, sRaiseB, eMethN, eMethX, noKey, isIns, eConI, eMkKN, eMkKX, eMkX, eMk, eFld, fldD, sFor, fSeq, seqD, eSFld, sFldS, putK, pow6, pow15, pow18, pow20, pow30, pow31, eOpX, eOpN, gSqD, b_law_1, t_law_5, EL, e, d, r]
theorem l6 (h : strP p = true) (hk : -4000000000000000000000000000000 ≤ k ∧ k ≤ 4000000000000000000000000000000) : t_law_6 (EL ns i m p (.val (.int k)) (.val (dueD p k)) (oc o7) c8 c9 c10 c11 c12) = .nx (EL ns i m p (.val (.int k)) (.val (dueD p k)) (.val (.int 2)) c8 c9 c10 c11 c12) := by
  have it : fRng1 (eC (.int 3)) (EL ns i m p (.val (.int k)) (.val (dueD p k)) (oc o7) c8 c9 c10 c11 c12) = .ok [.int 0, .int 1, .int 2] (EL ns i m p (.val (.int k)) (.val (dueD p k)) (oc o7) c8 c9 c10 c11 c12) := rfl
  have g0 : gSet 7 (.int 0) (EL ns i m p (.val (.int k)) (.val (dueD p k)) (oc o7) c8 c9 c10 c11 c12) = some (EL ns i m p (.val (.int k)) (.val (dueD p k)) (.val (.int 0)) c8 c9 c10 c11 c12) := by simp [fnN, fnB, fnBF, sSeq, sRet, sRetF, sRetN, sIf, sSet, sNil, sExpr, sOwn, sPar, sAsg, sMut, sApp, sPut, eVar, eC, eOp, eCall, eAnd, eOr, eNot, eIf, eTup, eFr, fLst, Opd.ev, evs, Arg.dat, dats, vals?, op1, op2, appF, cells, Arg.cell, sls, wb, finC, eChain, bAnd, bOr, bNot, bBl, bTru, truth, lt_ii, le_ii, gt_ii, ge_ii, neg_i, add_ii, sub_ii, max_ii, min_ii, add_ll, add_tt, sizeLine_eq, gTupD, gsCons, gsNil, gSet, notBor_eq, nbO_val, nbO_no, nbO_own, nbO_oc, ix_l, ix_t, Cell.mu?, Cell.lst?, Mu.lst?, len_l, len_t, eIsi, isi_pr, isiD, tyS, List.lookup, gTup_pr, ix_pr0, ix_pr1, at2_0, at2_1, D.fit, D.pure, pures, D.py, pys, PyData.depth, PyData.depthAll, at3_0, at3_1, at3_2, set3_0, set3_1, set3_2, set2_0, set2_1, eq_ii, ne_ii, eq_ss, ne_ss, eq_bb, ne_bb, int_i, abs_i, Cell.put, putAt, len_scr, isN_int, isN_non, oc_mu, oc_noX, nbO_oc, sTry, trS, exS, Sr.out, dropX, noExn, Cell.noX, eXf, eXis, sRaiseB, eMethN, eMethX, noKey, isIns, eConI, eMkKN, eMkKX, eMkX, eMk, eFld, fldD, sFor, fSeq, seqD, eSFld, sFldS, putK, pow6, pow15, pow18, pow20, pow30, pow31, eOpX, eOpN, gSqD, EL]
  have g1 : gSet 7 (.int 1) (EL ns i m p (.val (.int k)) (.val (dueD p k)) (.val (.int 0)) c8 c9 c10 c11 c12) = some (EL ns i m p (.val (.int k)) (.val (dueD p k)) (.val (.int 1)) c8 c9 c10 c11 c12) := rfl
  have g2 : gSet 7 (.int 2) (EL ns i m p (.val (.int k)) (.val (dueD p k)) (.val (.int 1)) c8 c9 c10 c11 c12) = some (EL ns i m p (.val (.int k)) (.val (dueD p k)) (.val (.int 2)) c8 c9 c10 c11 c12) := rfl
  have b0 := l5 (ns := ns) (i := i) (m := m) (c8 := c8) (c9 := c9) (c10 := c10) (c11 := c11) (c12 := c12) h hk (w := 0) (.inl rfl)
  have b1 := l5 (ns := ns) (i := i) (m := m) (c8 := c8) (c9 := c9) (c10 := c10) (c11 := c11) (c12 := c12) h hk (w := 1) (.inr (.inl rfl))
  have b2 := l5 (ns := ns) (i := i) (m := m) (c8 := c8) (c9 := c9) (c10 := c10) (c11 := c11) (c12 := c12) h hk (w := 2) (.inr (.inr rfl))
  exact for_ok it (by simp only [loopD, g0, g1, g2, b0, b1, b2])
theorem l7c (h : strP p = true) : c_law_1 (EL ns i m p (.val (.int k)) c6 c7 c8 c9 c10 c11 c12) = .ok [.int (sE p.1 k), .int (sE p.2 k)] (EL ns i m p (.val (.int k)) c6 c7 c8 c9 c10 c11 c12) := by
  have it : fSeq (eVar 3) (EL ns i m p (.val (.int k)) c6 c7 c8 c9 c10 c11 c12) = .ok ([p.1, p.2].map D.int) (EL ns i m p (.val (.int k)) c6 c7 c8 c9 c10 c11 c12) := rfl
  unfold c_law_1
  refine lc_ok it rfl (by simp) (lcD_all D.int (fun j => .int (sE j k)) [p.1, p.2] (fun j hj => ?_))
  refine ⟨[.val (.scr ns), .val (.int i), .own m, .val (prT p), .val (spn p), .val (.int k), c6, c7, c8, c9, c10, c11, c12, .val (.int j)], [.val (.scr ns), .val (.int i), .own m, .val (prT p), .val (spn p), .val (.int k), c6, c7, c8, c9, c10, c11, c12, .val (.int j)], rfl, ?_, rfl⟩
  have a := abs_far j
  cases o : opn j with
  | true =>
    have a' := a.mpr o
    have s : sE j k = j := by unfold sE; rw [if_pos o]
    simp [fnN, fnB, fnBF, sSeq, sRet, sRetF, sRetN, sIf, sSet, sNil, sExpr, sOwn, sPar, sAsg, sMut, sApp, sPut, eVar, eC, eOp, eCall, eAnd, eOr, eNot, eIf, eTup, eFr, fLst, Opd.ev, evs, Arg.dat, dats, vals?, op1, op2, appF, cells, Arg.cell, sls, wb, finC, eChain, bAnd, bOr, bNot, bBl, bTru, truth, lt_ii, le_ii, gt_ii, ge_ii, neg_i, add_ii, sub_ii, max_ii, min_ii, add_ll, add_tt, sizeLine_eq, gTupD, gsCons, gsNil, gSet, notBor_eq, nbO_val, nbO_no, nbO_own, nbO_oc, ix_l, ix_t, Cell.mu?, Cell.lst?, Mu.lst?, len_l, len_t, eIsi, isi_pr, isiD, tyS, List.lookup, gTup_pr, ix_pr0, ix_pr1, at2_0, at2_1, D.fit, D.pure, pures, D.py, pys, PyData.depth, PyData.depthAll, at3_0, at3_1, at3_2, set3_0, set3_1, set3_2, set2_0, set2_1, eq_ii, ne_ii, eq_ss, ne_ss, eq_bb, ne_bb, int_i, abs_i, Cell.put, putAt, len_scr, isN_int, isN_non, oc_mu, oc_noX, nbO_oc, sTry, trS, exS, Sr.out, dropX, noExn, Cell.noX, eXf, eXis, sRaiseB, eMethN, eMethX, noKey, isIns, eConI, eMkKN, eMkKX, eMkX, eMk, eFld, fldD, sFor, fSeq, seqD, eSFld, sFldS, putK, pow6, pow15, pow18, pow20, pow30, pow31, eOpX, eOpN, gSqD, a', s]
  | false =>
    have a' : ¬ (if j < 0 then -j else j) = 10000000000000000000000000000000 := fun z => by rw [a.mp z] at o; cases o
    have s : sE j k = j + k := by unfold sE; rw [if_neg (by rw [o]; exact Bool.false_ne_true)]
    simp [fnN, fnB, fnBF, sSeq, sRet, sRetF, sRetN, sIf, sSet, sNil, sExpr, sOwn, sPar, sAsg, sMut, sApp, sPut, eVar, eC, eOp, eCall, eAnd, eOr, eNot, eIf, eTup, eFr, fLst, Opd.ev, evs, Arg.dat, dats, vals?, op1, op2, appF, cells, Arg.cell, sls, wb, finC, eChain, bAnd, bOr, bNot, bBl, bTru, truth, lt_ii, le_ii, gt_ii, ge_ii, neg_i, add_ii, sub_ii, max_ii, min_ii, add_ll, add_tt, sizeLine_eq, gTupD, gsCons, gsNil, gSet, notBor_eq, nbO_val, nbO_no, nbO_own, nbO_oc, ix_l, ix_t, Cell.mu?, Cell.lst?, Mu.lst?, len_l, len_t, eIsi, isi_pr, isiD, tyS, List.lookup, gTup_pr, ix_pr0, ix_pr1, at2_0, at2_1, D.fit, D.pure, pures, D.py, pys, PyData.depth, PyData.depthAll, at3_0, at3_1, at3_2, set3_0, set3_1, set3_2, set2_0, set2_1, eq_ii, ne_ii, eq_ss, ne_ss, eq_bb, ne_bb, int_i, abs_i, Cell.put, putAt, len_scr, isN_int, isN_non, oc_mu, oc_noX, nbO_oc, sTry, trS, exS, Sr.out, dropX, noExn, Cell.noX, eXf, eXis, sRaiseB, eMethN, eMethX, noKey, isIns, eConI, eMkKN, eMkKX, eMkX, eMk, eFld, fldD, sFor, fSeq, seqD, eSFld, sFldS, putK, pow6, pow15, pow18, pow20, pow30, pow31, eOpX, eOpN, gSqD, a', s]
theorem m8 (h : strP p = true) (hf : farP p k = none) : (sSet 8 (eOpN (tI "Span") false fn_Span_add (eVar 4) (eVar 5))) (EL ns i m p (.val (.int k)) c6 c7 (oc o8) c9 c10 c11 c12) = .nx (EL ns i m p (.val (.int k)) c6 c7 (.val (spn (sP p k))) c9 c10 c11 c12) := by
  have a := span_add (k := k) h
  rw [hf] at a
  simp [fnN, fnB, fnBF, sSeq, sRet, sRetF, sRetN, sIf, sSet, sNil, sExpr, sOwn, sPar, sAsg, sMut, sApp, sPut, eVar, eC, eOp, eCall, eAnd, eOr, eNot, eIf, eTup, eFr, fLst, Opd.ev, evs, Arg.dat, dats, vals?, op1, op2, appF, cells, Arg.cell, sls, wb, finC, eChain, bAnd, bOr, bNot, bBl, bTru, truth, lt_ii, le_ii, gt_ii, ge_ii, neg_i, add_ii, sub_ii, max_ii, min_ii, add_ll, add_tt, sizeLine_eq, gTupD, gsCons, gsNil, gSet, notBor_eq, nbO_val, nbO_no, nbO_own, nbO_oc, ix_l, ix_t, Cell.mu?, Cell.lst?, Mu.lst?, len_l, len_t, eIsi, isi_pr, isiD, tyS, List.lookup, gTup_pr, ix_pr0, ix_pr1, at2_0, at2_1, D.fit, D.pure, pures, D.py, pys, PyData.depth, PyData.depthAll, at3_0, at3_1, at3_2, set3_0, set3_1, set3_2, set2_0, set2_1, eq_ii, ne_ii, eq_ss, ne_ss, eq_bb, ne_bb, int_i, abs_i, Cell.put, putAt, len_scr, isN_int, isN_non, oc_mu, oc_noX, nbO_oc, sTry, trS, exS, Sr.out, dropX, noExn, Cell.noX, eXf, eXis, sRaiseB, eMethN, eMethX, noKey, isIns, eConI, eMkKN, eMkKX, eMkX, eMk, eFld, fldD, sFor, fSeq, seqD, eSFld, sFldS, putK, pow6, pow15, pow18, pow20, pow30, pow31, eOpX, eOpN, gSqD, EL, a, tI, isI]
theorem m9 {n : Nat} (b : Bg n m) (hn : n ≤ 10000) : ∃ j m', (sSet 9 (eOp (op2 subD) [(.ex (eOp (op2 addD) [(.ex (eOp (op2 maxD) [(.ex (eOp (op2 subD) [(.ex (eC (.int 1))), (.ex (eOp (op2 powD) [(.ex (eC (.int 10))), (.ex (eC (.int 31)))]))])), (.ex (eOp (op2 ixD) [(.ex (eVar 3)), (.ex (eC (.int 0)))]))])), (.ex (eCall 2 fn_l_take [] [(.sl 2), (.ex (eC (.int 3)))]))])), (.ex (eC (.int 1)))])) (EL ns i m p (.val (.int k)) c6 c7 c8 (oc o9) c10 c11 c12) = .nx (EL ns i m' p (.val (.int k)) c6 c7 c8 (.val (.int j)) c10 c11 c12) ∧ Bg (n + 1) m' := by
  obtain ⟨t, m', e, t0, t1, b'⟩ := take_ok (k := 3) b (by omega) (by decide) (by decide)
  refine ⟨(if 1 - 10000000000000000000000000000000 < p.1 then p.1 else 1 - 10000000000000000000000000000000) + t - 1, m', ?_, b'⟩
  simp [fnN, fnB, fnBF, sSeq, sRet, sRetF, sRetN, sIf, sSet, sNil, sExpr, sOwn, sPar, sAsg, sMut, sApp, sPut, eVar, eC, eOp, eCall, eAnd, eOr, eNot, eIf, eTup, eFr, fLst, Opd.ev, evs, Arg.dat, dats, vals?, op1, op2, appF, cells, Arg.cell, sls, wb, finC, eChain, bAnd, bOr, bNot, bBl, bTru, truth, lt_ii, le_ii, gt_ii, ge_ii, neg_i, add_ii, sub_ii, max_ii, min_ii, add_ll, add_tt, sizeLine_eq, gTupD, gsCons, gsNil, gSet, notBor_eq, nbO_val, nbO_no, nbO_own, nbO_oc, ix_l, ix_t, Cell.mu?, Cell.lst?, Mu.lst?, len_l, len_t, eIsi, isi_pr, isiD, tyS, List.lookup, gTup_pr, ix_pr0, ix_pr1, at2_0, at2_1, D.fit, D.pure, pures, D.py, pys, PyData.depth, PyData.depthAll, at3_0, at3_1, at3_2, set3_0, set3_1, set3_2, set2_0, set2_1, eq_ii, ne_ii, eq_ss, ne_ss, eq_bb, ne_bb, int_i, abs_i, Cell.put, putAt, len_scr, isN_int, isN_non, oc_mu, oc_noX, nbO_oc, sTry, trS, exS, Sr.out, dropX, noExn, Cell.noX, eXf, eXis, sRaiseB, eMethN, eMethX, noKey, isIns, eConI, eMkKN, eMkKX, eMkX, eMk, eFld, fldD, sFor, fSeq, seqD, eSFld, sFldS, putK, pow6, pow15, pow18, pow20, pow30, pow31, eOpX, eOpN, gSqD, EL, e]
def inP (p : Pr) (j : Int) : Bool := (decide (p.1 ≤ j) && decide (j < p.2)) && decide (-10000000000000000000000000000000 < j)
theorem m10 {j : Int} : (sSet 10 (eAnd (eChain leD ltD (eOp (op2 ixD) [(.ex (eVar 3)), (.ex (eC (.int 0)))]) (eVar 9) (eOp (op2 ixD) [(.ex (eVar 3)), (.ex (eC (.int 1)))])) (eOp (op2 ltD) [(.ex (eOp (op1 negD) [(.ex (eOp (op2 powD) [(.ex (eC (.int 10))), (.ex (eC (.int 31)))]))])), (.ex (eVar 9))]))) (EL ns i m p (.val (.int k)) c6 c7 c8 (.val (.int j)) (oc o10) c11 c12) = .nx (EL ns i m p (.val (.int k)) c6 c7 c8 (.val (.int j)) (.val (.bl (inP p j))) c11 c12) := by
  by_cases h1 : p.1 ≤ j <;> by_cases h2 : j < p.2 <;> by_cases h3 : -10000000000000000000000000000000 < j <;> simp [fnN, fnB, fnBF, sSeq, sRet, sRetF, sRetN, sIf, sSet, sNil, sExpr, sOwn, sPar, sAsg, sMut, sApp, sPut, eVar, eC, eOp, eCall, eAnd, eOr, eNot, eIf, eTup, eFr, fLst, Opd.ev, evs, Arg.dat, dats, vals?, op1, op2, appF, cells, Arg.cell, sls, wb, finC, eChain, bAnd, bOr, bNot, bBl, bTru, truth, lt_ii, le_ii, gt_ii, ge_ii, neg_i, add_ii, sub_ii, max_ii, min_ii, add_ll, add_tt, sizeLine_eq, gTupD, gsCons, gsNil, gSet, notBor_eq, nbO_val, nbO_no, nbO_own, nbO_oc, ix_l, ix_t, Cell.mu?, Cell.lst?, Mu.lst?, len_l, len_t, eIsi, isi_pr, isiD, tyS, List.lookup, gTup_pr, ix_pr0, ix_pr1, at2_0, at2_1, D.fit, D.pure, pures, D.py, pys, PyData.depth, PyData.depthAll, at3_0, at3_1, at3_2, set3_0, set3_1, set3_2, set2_0, set2_1, eq_ii, ne_ii, eq_ss, ne_ss, eq_bb, ne_bb, int_i, abs_i, Cell.put, putAt, len_scr, isN_int, isN_non, oc_mu, oc_noX, nbO_oc, sTry, trS, exS, Sr.out, dropX, noExn, Cell.noX, eXf, eXis, sRaiseB, eMethN, eMethX, noKey, isIns, eConI, eMkKN, eMkKX, eMkX, eMk, eFld, fldD, sFor, fSeq, seqD, eSFld, sFldS, putK, pow6, pow15, pow18, pow20, pow30, pow31, eOpX, eOpN, gSqD, EL, inP, h1, h2, h3]
theorem inP_is (h : strP p = true) (j : Int) : inP p j = hasM p j := by
  have s := strP_in h
  unfold inP hasM
  by_cases h1 : p.1 ≤ j <;> by_cases h2 : j < p.2 <;> by_cases h3 : -10000000000000000000000000000000 < j <;> by_cases h4 : j < 10000000000000000000000000000000 <;> simp [h1, h2, h3, h4] <;> omega
theorem m11 (h : strP p = true) (hf : farP p k = none) {j : Int} : (sIf (bOr (bBl (eOp (op2 neD) [(.ex (eOp (op1 reprD) [(.ex (eOp (op2 (inB "Span" fn_Span_contains)) [(.ex (eVar 9)), (.ex (eVar 4))]))])), (.ex (eOp (op1 reprD) [(.ex (eVar 10))]))])) (bNot (bBl (eOp (op2 (ownEq "Span" ["Span"] fn_Span_eq)) [(.ex (eOpN (tI "Span") false fn_Span_sub (eVar 8) (eVar 5))), (.ex (eVar 4))]))))
    (sRet (eC (.bl false)))
    sNil) (EL ns i m p (.val (.int k)) c6 c7 (.val (spn (sP p k))) (.val (.int j)) (.val (.bl (inP p j))) c11 c12) = .nx (EL ns i m p (.val (.int k)) c6 c7 (.val (spn (sP p k))) (.val (.int j)) (.val (.bl (inP p j))) c11 c12) := by
  have b := in_i p j
  rw [← inP_is h] at b
  have r := repr_b (inP p j)
  have bk := back_p h hf
  have sb := span_sub (k := k) (sP_str h hf)
  rw [bk.1, bk.2] at sb
  have es := eq_self p
  generalize inP p j = v at *
  generalize sP p k = q at *
  simp [fnN, fnB, fnBF, sSeq, sRet, sRetF, sRetN, sIf, sSet, sNil, sExpr, sOwn, sPar, sAsg, sMut, sApp, sPut, eVar, eC, eOp, eCall, eAnd, eOr, eNot, eIf, eTup, eFr, fLst, Opd.ev, evs, Arg.dat, dats, vals?, op1, op2, appF, cells, Arg.cell, sls, wb, finC, eChain, bAnd, bOr, bNot, bBl, bTru, truth, lt_ii, le_ii, gt_ii, ge_ii, neg_i, add_ii, sub_ii, max_ii, min_ii, add_ll, add_tt, sizeLine_eq, gTupD, gsCons, gsNil, gSet, notBor_eq, nbO_val, nbO_no, nbO_own, nbO_oc, ix_l, ix_t, Cell.mu?, Cell.lst?, Mu.lst?, len_l, len_t, eIsi, isi_pr, isiD, tyS, List.lookup, gTup_pr, ix_pr0, ix_pr1, at2_0, at2_1, D.fit, D.pure, pures, D.py, pys, PyData.depth, PyData.depthAll, at3_0, at3_1, at3_2, set3_0, set3_1, set3_2, set2_0, set2_1, eq_ii, ne_ii, eq_ss, ne_ss, eq_bb, ne_bb, int_i, abs_i, Cell.put, putAt, len_scr, isN_int, isN_non, oc_mu, oc_noX, nbO_oc, sTry, trS, exS, Sr.out, dropX, noExn, Cell.noX, eXf, eXis, sRaiseB, eMethN, eMethX, noKey, isIns, eConI, eMkKN, eMkKX, eMkX, eMk, eFld, fldD, sFor, fSeq, seqD, eSFld, sFldS, putK, pow6, pow15, pow18, pow20, pow30, pow31, eOpX, eOpN, gSqD, EL, b, r, tI, isI, sb, es]
theorem m13 (h : strP p = true) : (sAsg (eFr c_law_1) (gSqD 2 (gsCons (gSet 11) (gsCons (gSet 12) gsNil)))) (EL ns i m p (.val (.int k)) c6 c7 c8 c9 c10 (oc o11) (oc o12)) = .nx (EL ns i m p (.val (.int k)) c6 c7 c8 c9 c10 (.val (.int (sE p.1 k))) (.val (.int (sE p.2 k)))) := by
  have c := l7c (ns := ns) (i := i) (m := m) (k := k) (c6 := c6) (c7 := c7) (c8 := c8) (c9 := c9) (c10 := c10) (c11 := oc o11) (c12 := oc o12) h
  unfold sAsg eFr
  rw [c]
  simp [fnN, fnB, fnBF, sSeq, sRet, sRetF, sRetN, sIf, sSet, sNil, sExpr, sOwn, sPar, sAsg, sMut, sApp, sPut, eVar, eC, eOp, eCall, eAnd, eOr, eNot, eIf, eTup, eFr, fLst, Opd.ev, evs, Arg.dat, dats, vals?, op1, op2, appF, cells, Arg.cell, sls, wb, finC, eChain, bAnd, bOr, bNot, bBl, bTru, truth, lt_ii, le_ii, gt_ii, ge_ii, neg_i, add_ii, sub_ii, max_ii, min_ii, add_ll, add_tt, sizeLine_eq, gTupD, gsCons, gsNil, gSet, notBor_eq, nbO_val, nbO_no, nbO_own, nbO_oc, ix_l, ix_t, Cell.mu?, Cell.lst?, Mu.lst?, len_l, len_t, eIsi, isi_pr, isiD, tyS, List.lookup, gTup_pr, ix_pr0, ix_pr1, at2_0, at2_1, D.fit, D.pure, pures, D.py, pys, PyData.depth, PyData.depthAll, at3_0, at3_1, at3_2, set3_0, set3_1, set3_2, set2_0, set2_1, eq_ii, ne_ii, eq_ss, ne_ss, eq_bb, ne_bb, int_i, abs_i, Cell.put, putAt, len_scr, isN_int, isN_non, oc_mu, oc_noX, nbO_oc, sTry, trS, exS, Sr.out, dropX, noExn, Cell.noX, eXf, eXis, sRaiseB, eMethN, eMethX, noKey, isIns, eConI, eMkKN, eMkKX, eMkX, eMk, eFld, fldD, sFor, fSeq, seqD, eSFld, sFldS, putK, pow6, pow15, pow18, pow20, pow30, pow31, eOpX, eOpN, gSqD, EL]
theorem m14 {j : Int} (h1 : -10000000000000000000000000000000 < j + k) (h2 : j + k < 10000000000000000000000000000000) : (sIf (bBl (eOp (op2 neD) [(.ex (eOp (op1 reprD) [(.ex (eOp (op2 (inB "Span" fn_Span_contains)) [(.ex (eOp (op2 addD) [(.ex (eVar 9)), (.ex (eVar 5))])), (.ex (eVar 8))]))])), (.ex (eOp (op1 reprD) [(.ex (eChain leD ltD (eVar 11) (eOp (op2 addD) [(.ex (eVar 9)), (.ex (eVar 5))]) (eVar 12)))]))]))
    (sRet (eC (.bl false)))
    sNil) (EL ns i m p (.val (.int k)) c6 c7 (.val (spn (sP p k))) (.val (.int j)) c10 (.val (.int (sE p.1 k))) (.val (.int (sE p.2 k)))) = .nx (EL ns i m p (.val (.int k)) c6 c7 (.val (spn (sP p k))) (.val (.int j)) c10 (.val (.int (sE p.1 k))) (.val (.int (sE p.2 k)))) := by
  have b := in_i (sP p k) (j + k)
  have e : hasM (sP p k) (j + k) = (decide (sE p.1 k ≤ j + k) && decide (j + k < sE p.2 k)) := by
    unfold hasM
    rw [decide_eq_true h1, decide_eq_true h2]; rfl
  rw [e] at b
  have r := repr_b (decide (sE p.1 k ≤ j + k) && decide (j + k < sE p.2 k))
  by_cases x1 : sE p.1 k ≤ j + k <;> by_cases x2 : j + k < sE p.2 k <;> simp only [x1, x2, decide_true, decide_false, Bool.and_true, Bool.and_false, Bool.false_and] at b r <;> simp [fnN, fnB, fnBF, sSeq, sRet, sRetF, sRetN, sIf, sSet, sNil, sExpr, sOwn, sPar, sAsg, sMut, sApp, sPut, eVar, eC, eOp, eCall, eAnd, eOr, eNot, eIf, eTup, eFr, fLst, Opd.ev, evs, Arg.dat, dats, vals?, op1, op2, appF, cells, Arg.cell, sls, wb, finC, eChain, bAnd, bOr, bNot, bBl, bTru, truth, lt_ii, le_ii, gt_ii, ge_ii, neg_i, add_ii, sub_ii, max_ii, min_ii, add_ll, add_tt, sizeLine_eq, gTupD, gsCons, gsNil, gSet, notBor_eq, nbO_val, nbO_no, nbO_own, nbO_oc, ix_l, ix_t, Cell.mu?, Cell.lst?, Mu.lst?, len_l, len_t, eIsi, isi_pr, isiD, tyS, List.lookup, gTup_pr, ix_pr0, ix_pr1, at2_0, at2_1, D.fit, D.pure, pures, D.py, pys, PyData.depth, PyData.depthAll, at3_0, at3_1, at3_2, set3_0, set3_1, set3_2, set2_0, set2_1, eq_ii, ne_ii, eq_ss, ne_ss, eq_bb, ne_bb, int_i, abs_i, Cell.put, putAt, len_scr, isN_int, isN_non, oc_mu, oc_noX, nbO_oc, sTry, trS, exS, Sr.out, dropX, noExn, Cell.noX, eXf, eXis, sRaiseB, eMethN, eMethX, noKey, isIns, eConI, eMkKN, eMkKX, eMkX, eMk, eFld, fldD, sFor, fSeq, seqD, eSFld, sFldS, putK, pow6, pow15, pow18, pow20, pow30, pow31, eOpX, eOpN, gSqD, EL, b, r, x1, x2]
theorem l7 (h : strP p = true) {n : Nat} (b : Bg n m) (hn : n ≤ 10000) : ∃ o8' o9' o10' o11' o12' m', t_law_7 (EL ns i m p (.val (.int k)) (.val (dueD p k)) c7 (oc o8) (oc o9) (oc o10) (oc o11) (oc o12)) = .nx (EL ns i m' p (.val (.int k)) (.val (dueD p k)) c7 (oc o8') (oc o9') (oc o10') (oc o11') (oc o12')) ∧ Bg (n + 1) m' := by
  unfold t_law_7
  cases hf : farP p k with
  | some e =>
    have t : bBl (eOp (op2 eqD) [(.ex (eOp (op2 ixD) [(.ex (eVar 6)), (.ex (eC (.int 0)))])), (.ex (eC (.str "made")))]) (EL ns i m p (.val (.int k)) (.val (dueD p k)) c7 (oc o8) (oc o9) (oc o10) (oc o11) (oc o12)) = .ok false (EL ns i m p (.val (.int k)) (.val (dueD p k)) c7 (oc o8) (oc o9) (oc o10) (oc o11) (oc o12)) := by
      unfold dueD
      rw [hf]
      simp [fnN, fnB, fnBF, sSeq, sRet, sRetF, sRetN, sIf, sSet, sNil, sExpr, sOwn, sPar, sAsg, sMut, sApp, sPut, eVar, eC, eOp, eCall, eAnd, eOr, eNot, eIf, eTup, eFr, fLst, Opd.ev, evs, Arg.dat, dats, vals?, op1, op2, appF, cells, Arg.cell, sls, wb, finC, eChain, bAnd, bOr, bNot, bBl, bTru, truth, lt_ii, le_ii, gt_ii, ge_ii, neg_i, add_ii, sub_ii, max_ii, min_ii, add_ll, add_tt, sizeLine_eq, gTupD, gsCons, gsNil, gSet, notBor_eq, nbO_val, nbO_no, nbO_own, nbO_oc, ix_l, ix_t, Cell.mu?, Cell.lst?, Mu.lst?, len_l, len_t, eIsi, isi_pr, isiD, tyS, List.lookup, gTup_pr, ix_pr0, ix_pr1, at2_0, at2_1, D.fit, D.pure, pures, D.py, pys, PyData.depth, PyData.depthAll, at3_0, at3_1, at3_2, set3_0, set3_1, set3_2, set2_0, set2_1, eq_ii, ne_ii, eq_ss, ne_ss, eq_bb, ne_bb, int_i, abs_i, Cell.put, putAt, len_scr, isN_int, isN_non, oc_mu, oc_noX, nbO_oc, sTry, trS, exS, Sr.out, dropX, noExn, Cell.noX, eXf, eXis, sRaiseB, eMethN, eMethX, noKey, isIns, eConI, eMkKN, eMkKX, eMkX, eMk, eFld, fldD, sFor, fSeq, seqD, eSFld, sFldS, putK, pow6, pow15, pow18, pow20, pow30, pow31, eOpX, eOpN, gSqD, EL]
    rw [if_no t]
    exact ⟨o8, o9, o10, o11, o12, m, rfl, b.more (by omega)⟩
  | none =>
    have t : bBl (eOp (op2 eqD) [(.ex (eOp (op2 ixD) [(.ex (eVar 6)), (.ex (eC (.int 0)))])), (.ex (eC (.str "made")))]) (EL ns i m p (.val (.int k)) (.val (dueD p k)) c7 (oc o8) (oc o9) (oc o10) (oc o11) (oc o12)) = .ok true (EL ns i m p (.val (.int k)) (.val (dueD p k)) c7 (oc o8) (oc o9) (oc o10) (oc o11) (oc o12)) := by
      unfold dueD
      rw [hf]
      simp [fnN, fnB, fnBF, sSeq, sRet, sRetF, sRetN, sIf, sSet, sNil, sExpr, sOwn, sPar, sAsg, sMut, sApp, sPut, eVar, eC, eOp, eCall, eAnd, eOr, eNot, eIf, eTup, eFr, fLst, Opd.ev, evs, Arg.dat, dats, vals?, op1, op2, appF, cells, Arg.cell, sls, wb, finC, eChain, bAnd, bOr, bNot, bBl, bTru, truth, lt_ii, le_ii, gt_ii, ge_ii, neg_i, add_ii, sub_ii, max_ii, min_ii, add_ll, add_tt, sizeLine_eq, gTupD, gsCons, gsNil, gSet, notBor_eq, nbO_val, nbO_no, nbO_own, nbO_oc, ix_l, ix_t, Cell.mu?, Cell.lst?, Mu.lst?, len_l, len_t, eIsi, isi_pr, isiD, tyS, List.lookup, gTup_pr, ix_pr0, ix_pr1, at2_0, at2_1, D.fit, D.pure, pures, D.py, pys, PyData.depth, PyData.depthAll, at3_0, at3_1, at3_2, set3_0, set3_1, set3_2, set2_0, set2_1, eq_ii, ne_ii, eq_ss, ne_ss, eq_bb, ne_bb, int_i, abs_i, Cell.put, putAt, len_scr, isN_int, isN_non, oc_mu, oc_noX, nbO_oc, sTry, trS, exS, Sr.out, dropX, noExn, Cell.noX, eXf, eXis, sRaiseB, eMethN, eMethX, noKey, isIns, eConI, eMkKN, eMkKX, eMkX, eMk, eFld, fldD, sFor, fSeq, seqD, eSFld, sFldS, putK, pow6, pow15, pow18, pow20, pow30, pow31, eOpX, eOpN, gSqD, EL]
    rw [if_yes t]
    obtain ⟨j, m', e9, b'⟩ := m9 (ns := ns) (i := i) (p := p) (k := k) (o9 := o9) (c6 := .val (dueD p k)) (c7 := c7) (c8 := .val (spn (sP p k))) (c10 := oc o10) (c11 := oc o11) (c12 := oc o12) b hn
    rw [seq_nx (m8 h hf), seq_nx e9, seq_nx m10, seq_nx (m11 h hf)]
    by_cases x1 : -10000000000000000000000000000000 < j + k
    · by_cases x2 : j + k < 10000000000000000000000000000000
      · by_cases x3 : -10000000000000000000000000000000 < j
        · have c : (bAnd (bBl (eChain ltD ltD (eOp (op1 negD) [(.ex (eOp (op2 powD) [(.ex (eC (.int 10))), (.ex (eC (.int 31)))]))]) (eOp (op2 addD) [(.ex (eVar 9)), (.ex (eVar 5))]) (eOp (op2 powD) [(.ex (eC (.int 10))), (.ex (eC (.int 31)))]))) (bBl (eOp (op2 ltD) [(.ex (eOp (op1 negD) [(.ex (eOp (op2 powD) [(.ex (eC (.int 10))), (.ex (eC (.int 31)))]))])), (.ex (eVar 9))]))) (EL ns i m' p (.val (.int k)) (.val (dueD p k)) c7 (.val (spn (sP p k))) (.val (.int j)) (.val (.bl (inP p j))) (oc o11) (oc o12)) = .ok true (EL ns i m' p (.val (.int k)) (.val (dueD p k)) c7 (.val (spn (sP p k))) (.val (.int j)) (.val (.bl (inP p j))) (oc o11) (oc o12)) := by simp [fnN, fnB, fnBF, sSeq, sRet, sRetF, sRetN, sIf, sSet, sNil, sExpr, sOwn, sPar, sAsg, sMut, sApp, sPut, eVar, eC, eOp, eCall, eAnd, eOr, eNot, eIf, eTup, eFr, fLst, Opd.ev, evs, Arg.dat, dats, vals?, op1, op2, appF, cells, Arg.cell, sls, wb, finC, eChain, bAnd, bOr, bNot, bBl, bTru, truth, lt_ii, le_ii, gt_ii, ge_ii, neg_i, add_ii, sub_ii, max_ii, min_ii, add_ll, add_tt, sizeLine_eq, gTupD, gsCons, gsNil, gSet, notBor_eq, nbO_val, nbO_no, nbO_own, nbO_oc, ix_l, ix_t, Cell.mu?, Cell.lst?, Mu.lst?, len_l, len_t, eIsi, isi_pr, isiD, tyS, List.lookup, gTup_pr, ix_pr0, ix_pr1, at2_0, at2_1, D.fit, D.pure, pures, D.py, pys, PyData.depth, PyData.depthAll, at3_0, at3_1, at3_2, set3_0, set3_1, set3_2, set2_0, set2_1, eq_ii, ne_ii, eq_ss, ne_ss, eq_bb, ne_bb, int_i, abs_i, Cell.put, putAt, len_scr, isN_int, isN_non, oc_mu, oc_noX, nbO_oc, sTry, trS, exS, Sr.out, dropX, noExn, Cell.noX, eXf, eXis, sRaiseB, eMethN, eMethX, noKey, isIns, eConI, eMkKN, eMkKX, eMkX, eMk, eFld, fldD, sFor, fSeq, seqD, eSFld, sFldS, putK, pow6, pow15, pow18, pow20, pow30, pow31, eOpX, eOpN, gSqD, EL, x1, x2, x3]
          rw [if_yes c, seq_nx (m13 h), m14 x1 x2]
          exact ⟨some _, some _, some _, some _, some _, m', rfl, b'⟩
        · have c : (bAnd (bBl (eChain ltD ltD (eOp (op1 negD) [(.ex (eOp (op2 powD) [(.ex (eC (.int 10))), (.ex (eC (.int 31)))]))]) (eOp (op2 addD) [(.ex (eVar 9)), (.ex (eVar 5))]) (eOp (op2 powD) [(.ex (eC (.int 10))), (.ex (eC (.int 31)))]))) (bBl (eOp (op2 ltD) [(.ex (eOp (op1 negD) [(.ex (eOp (op2 powD) [(.ex (eC (.int 10))), (.ex (eC (.int 31)))]))])), (.ex (eVar 9))]))) (EL ns i m' p (.val (.int k)) (.val (dueD p k)) c7 (.val (spn (sP p k))) (.val (.int j)) (.val (.bl (inP p j))) (oc o11) (oc o12)) = .ok false (EL ns i m' p (.val (.int k)) (.val (dueD p k)) c7 (.val (spn (sP p k))) (.val (.int j)) (.val (.bl (inP p j))) (oc o11) (oc o12)) := by simp [fnN, fnB, fnBF, sSeq, sRet, sRetF, sRetN, sIf, sSet, sNil, sExpr, sOwn, sPar, sAsg, sMut, sApp, sPut, eVar, eC, eOp, eCall, eAnd, eOr, eNot, eIf, eTup, eFr, fLst, Opd.ev, evs, Arg.dat, dats, vals?, op1, op2, appF, cells, Arg.cell, sls, wb, finC, eChain, bAnd, bOr, bNot, bBl, bTru, truth, lt_ii, le_ii, gt_ii, ge_ii, neg_i, add_ii, sub_ii, max_ii, min_ii, add_ll, add_tt, sizeLine_eq, gTupD, gsCons, gsNil, gSet, notBor_eq, nbO_val, nbO_no, nbO_own, nbO_oc, ix_l, ix_t, Cell.mu?, Cell.lst?, Mu.lst?, len_l, len_t, eIsi, isi_pr, isiD, tyS, List.lookup, gTup_pr, ix_pr0, ix_pr1, at2_0, at2_1, D.fit, D.pure, pures, D.py, pys, PyData.depth, PyData.depthAll, at3_0, at3_1, at3_2, set3_0, set3_1, set3_2, set2_0, set2_1, eq_ii, ne_ii, eq_ss, ne_ss, eq_bb, ne_bb, int_i, abs_i, Cell.put, putAt, len_scr, isN_int, isN_non, oc_mu, oc_noX, nbO_oc, sTry, trS, exS, Sr.out, dropX, noExn, Cell.noX, eXf, eXis, sRaiseB, eMethN, eMethX, noKey, isIns, eConI, eMkKN, eMkKX, eMkX, eMk, eFld, fldD, sFor, fSeq, seqD, eSFld, sFldS, putK, pow6, pow15, pow18, pow20, pow30, pow31, eOpX, eOpN, gSqD, EL, x1, x2, x3]
          rw [if_no c]
          exact ⟨some _, some _, some _, o11, o12, m', rfl, b'⟩
      · have c : (bAnd (bBl (eChain ltD ltD (eOp (op1 negD) [(.ex (eOp (op2 powD) [(.ex (eC (.int 10))), (.ex (eC (.int 31)))]))]) (eOp (op2 addD) [(.ex (eVar 9)), (.ex (eVar 5))]) (eOp (op2 powD) [(.ex (eC (.int 10))), (.ex (eC (.int 31)))]))) (bBl (eOp (op2 ltD) [(.ex (eOp (op1 negD) [(.ex (eOp (op2 powD) [(.ex (eC (.int 10))), (.ex (eC (.int 31)))]))])), (.ex (eVar 9))]))) (EL ns i m' p (.val (.int k)) (.val (dueD p k)) c7 (.val (spn (sP p k))) (.val (.int j)) (.val (.bl (inP p j))) (oc o11) (oc o12)) = .ok false (EL ns i m' p (.val (.int k)) (.val (dueD p k)) c7 (.val (spn (sP p k))) (.val (.int j)) (.val (.bl (inP p j))) (oc o11) (oc o12)) := by simp [fnN, fnB, fnBF, sSeq, sRet, sRetF, sRetN, sIf, sSet, sNil, sExpr, sOwn, sPar, sAsg, sMut, sApp, sPut, eVar, eC, eOp, eCall, eAnd, eOr, eNot, eIf, eTup, eFr, fLst, Opd.ev, evs, Arg.dat, dats, vals?, op1, op2, appF, cells, Arg.cell, sls, wb, finC, eChain, bAnd, bOr, bNot, bBl, bTru, truth, lt_ii, le_ii, gt_ii, ge_ii, neg_i, add_ii, sub_ii, max_ii, min_ii, add_ll, add_tt, sizeLine_eq, gTupD, gsCons, gsNil, gSet, notBor_eq, nbO_val, nbO_no, nbO_own, nbO_oc, ix_l, ix_t, Cell.mu?, Cell.lst?, Mu.lst?, len_l, len_t, eIsi, isi_pr, isiD, tyS, List.lookup, gTup_pr, ix_pr0, ix_pr1, at2_0, at2_1, D.fit, D.pure, pures, D.py, pys, PyData.depth, PyData.depthAll, at3_0, at3_1, at3_2, set3_0, set3_1, set3_2, set2_0, set2_1, eq_ii, ne_ii, eq_ss, ne_ss, eq_bb, ne_bb, int_i, abs_i, Cell.put, putAt, len_scr, isN_int, isN_non, oc_mu, oc_noX, nbO_oc, sTry, trS, exS, Sr.out, dropX, noExn, Cell.noX, eXf, eXis, sRaiseB, eMethN, eMethX, noKey, isIns, eConI, eMkKN, eMkKX, eMkX, eMk, eFld, fldD, sFor, fSeq, seqD, eSFld, sFldS, putK, pow6, pow15, pow18, pow20, pow30, pow31, eOpX, eOpN, gSqD, EL, x1, x2]
        rw [if_no c]
        exact ⟨some _, some _, some _, o11, o12, m', rfl, b'⟩
    · have c : (bAnd (bBl (eChain ltD ltD (eOp (op1 negD) [(.ex (eOp (op2 powD) [(.ex (eC (.int 10))), (.ex (eC (.int 31)))]))]) (eOp (op2 addD) [(.ex (eVar 9)), (.ex (eVar 5))]) (eOp (op2 powD) [(.ex (eC (.int 10))), (.ex (eC (.int 31)))]))) (bBl (eOp (op2 ltD) [(.ex (eOp (op1 negD) [(.ex (eOp (op2 powD) [(.ex (eC (.int 10))), (.ex (eC (.int 31)))]))])), (.ex (eVar 9))]))) (EL ns i m' p (.val (.int k)) (.val (dueD p k)) c7 (.val (spn (sP p k))) (.val (.int j)) (.val (.bl (inP p j))) (oc o11) (oc o12)) = .ok false (EL ns i m' p (.val (.int k)) (.val (dueD p k)) c7 (.val (spn (sP p k))) (.val (.int j)) (.val (.bl (inP p j))) (oc o11) (oc o12)) := by simp [fnN, fnB, fnBF, sSeq, sRet, sRetF, sRetN, sIf, sSet, sNil, sExpr, sOwn, sPar, sAsg, sMut, sApp, sPut, eVar, eC, eOp, eCall, eAnd, eOr, eNot, eIf, eTup, eFr, fLst, Opd.ev, evs, Arg.dat, dats, vals?, op1, op2, appF, cells, Arg.cell, sls, wb, finC, eChain, bAnd, bOr, bNot, bBl, bTru, truth, lt_ii, le_ii, gt_ii, ge_ii, neg_i, add_ii, sub_ii, max_ii, min_ii, add_ll, add_tt, sizeLine_eq, gTupD, gsCons, gsNil, gSet, notBor_eq, nbO_val, nbO_no, nbO_own, nbO_oc, ix_l, ix_t, Cell.mu?, Cell.lst?, Mu.lst?, len_l, len_t, eIsi, isi_pr, isiD, tyS, List.lookup, gTup_pr, ix_pr0, ix_pr1, at2_0, at2_1, D.fit, D.pure, pures, D.py, pys, PyData.depth, PyData.depthAll, at3_0, at3_1, at3_2, set3_0, set3_1, set3_2, set2_0, set2_1, eq_ii, ne_ii, eq_ss, ne_ss, eq_bb, ne_bb, int_i, abs_i, Cell.put, putAt, len_scr, isN_int, isN_non, oc_mu, oc_noX, nbO_oc, sTry, trS, exS, Sr.out, dropX, noExn, Cell.noX, eXf, eXis, sRaiseB, eMethN, eMethX, noKey, isIns, eConI, eMkKN, eMkKX, eMkX, eMk, eFld, fldD, sFor, fSeq, seqD, eSFld, sFldS, putK, pow6, pow15, pow18, pow20, pow30, pow31, eOpX, eOpN, gSqD, EL, x1]
      rw [if_no c]
      exact ⟨some _, some _, some _, o11, o12, m', rfl, b'⟩
theorem turn_ok (h : strP p = true) (hk : -4000000000000000000000000000000 ≤ k ∧ k ≤ 4000000000000000000000000000000) {n : Nat} (b : Bg n m) (hn : n ≤ 10000) : ∃ o6' o7' o8' o9' o10' o11' o12' m', b_law_2 (EL ns i m p (.val (.int k)) (oc o6) (oc o7) (oc o8) (oc o9) (oc o10) (oc o11) (oc o12)) = .nx (EL ns i m' p (.val (.int k)) (oc o6') (oc o7') (oc o8') (oc o9') (oc o10') (oc o11') (oc o12')) ∧ Bg (n + 1) m' := by
  obtain ⟨o8', o9', o10', o11', o12', m', e7, b'⟩ := l7 (ns := ns) (i := i) (p := p) (k := k) (c7 := .val (.int 2)) (o8 := o8) (o9 := o9) (o10 := o10) (o11 := o11) (o12 := o12) h b hn
  refine ⟨some (dueD p k), some (.int 2), o8', o9', o10', o11', o12', m', ?_, b'⟩
  unfold b_law_2
  rw [seq_nx (l4 h hk), seq_nx (l6 h hk), e7]
  rfl
theorem l8 (h : strP p = true) {n : Nat} (b : Bg n m) (hn : n ≤ 1000) {o5 : Option D} : ∃ o5' o6' o7' o8' o9' o10' o11' o12' m', t_law_8 (EL ns i m p (oc o5) (oc o6) (oc o7) (oc o8) (oc o9) (oc o10) (oc o11) (oc o12)) = .nx (EL ns i m' p (oc o5') (oc o6') (oc o7') (oc o8') (oc o9') (oc o10') (oc o11') (oc o12')) := by
  obtain ⟨k1, m1, s1, k10, k11, b1⟩ := shift_ok b (by omega) h
  obtain ⟨k2, m2, s2, k20, k21, b2⟩ := shift_ok b1 (by omega) h
  have it : fSeq (eFr (fLst [(.ex (eCall 2 fn_l_shift [] [(.sl 2), (.ex (eVar 3))])), (.ex (eC (.int 0))), (.ex (eCall 2 fn_l_shift [] [(.sl 2), (.ex (eVar 3))]))])) (EL ns i m p (oc o5) (oc o6) (oc o7) (oc o8) (oc o9) (oc o10) (oc o11) (oc o12)) = .ok [.int k1, .int 0, .int k2] (EL ns i m2 p (oc o5) (oc o6) (oc o7) (oc o8) (oc o9) (oc o10) (oc o11) (oc o12)) := by
    simp [fnN, fnB, fnBF, sSeq, sRet, sRetF, sRetN, sIf, sSet, sNil, sExpr, sOwn, sPar, sAsg, sMut, sApp, sPut, eVar, eC, eOp, eCall, eAnd, eOr, eNot, eIf, eTup, eFr, fLst, Opd.ev, evs, Arg.dat, dats, vals?, op1, op2, appF, cells, Arg.cell, sls, wb, finC, eChain, bAnd, bOr, bNot, bBl, bTru, truth, lt_ii, le_ii, gt_ii, ge_ii, neg_i, add_ii, sub_ii, max_ii, min_ii, add_ll, add_tt, sizeLine_eq, gTupD, gsCons, gsNil, gSet, notBor_eq, nbO_val, nbO_no, nbO_own, nbO_oc, ix_l, ix_t, Cell.mu?, Cell.lst?, Mu.lst?, len_l, len_t, eIsi, isi_pr, isiD, tyS, List.lookup, gTup_pr, ix_pr0, ix_pr1, at2_0, at2_1, D.fit, D.pure, pures, D.py, pys, PyData.depth, PyData.depthAll, at3_0, at3_1, at3_2, set3_0, set3_1, set3_2, set2_0, set2_1, eq_ii, ne_ii, eq_ss, ne_ss, eq_bb, ne_bb, int_i, abs_i, Cell.put, putAt, len_scr, isN_int, isN_non, oc_mu, oc_noX, nbO_oc, sTry, trS, exS, Sr.out, dropX, noExn, Cell.noX, eXf, eXis, sRaiseB, eMethN, eMethX, noKey, isIns, eConI, eMkKN, eMkKX, eMkX, eMk, eFld, fldD, sFor, fSeq, seqD, eSFld, sFldS, putK, pow6, pow15, pow18, pow20, pow30, pow31, eOpX, eOpN, gSqD, EL, s1, s2]
  obtain ⟨q6, q7, q8, q9, q10, q11, q12, m3, t1, b3⟩ := turn_ok (ns := ns) (i := i) (k := k1) (o6 := o6) (o7 := o7) (o8 := o8) (o9 := o9) (o10 := o10) (o11 := o11) (o12 := o12) h ⟨k10, k11⟩ b2 (by omega)
  obtain ⟨r6, r7, r8, r9, r10, r11, r12, m4, t2, b4⟩ := turn_ok (ns := ns) (i := i) (k := 0) (o6 := q6) (o7 := q7) (o8 := q8) (o9 := q9) (o10 := q10) (o11 := q11) (o12 := q12) h (by omega) b3 (by omega)
  obtain ⟨u6, u7, u8, u9, u10, u11, u12, m5, t3, b5⟩ := turn_ok (ns := ns) (i := i) (k := k2) (o6 := r6) (o7 := r7) (o8 := r8) (o9 := r9) (o10 := r10) (o11 := r11) (o12 := r12) h ⟨k20, k21⟩ b4 (by omega)
  have g1 : gSet 5 (.int k1) (EL ns i m2 p (oc o5) (oc o6) (oc o7) (oc o8) (oc o9) (oc o10) (oc o11) (oc o12)) = some (EL ns i m2 p (.val (.int k1)) (oc o6) (oc o7) (oc o8) (oc o9) (oc o10) (oc o11) (oc o12)) := by simp [fnN, fnB, fnBF, sSeq, sRet, sRetF, sRetN, sIf, sSet, sNil, sExpr, sOwn, sPar, sAsg, sMut, sApp, sPut, eVar, eC, eOp, eCall, eAnd, eOr, eNot, eIf, eTup, eFr, fLst, Opd.ev, evs, Arg.dat, dats, vals?, op1, op2, appF, cells, Arg.cell, sls, wb, finC, eChain, bAnd, bOr, bNot, bBl, bTru, truth, lt_ii, le_ii, gt_ii, ge_ii, neg_i, add_ii, sub_ii, max_ii, min_ii, add_ll, add_tt, sizeLine_eq, gTupD, gsCons, gsNil, gSet, notBor_eq, nbO_val, nbO_no, nbO_own, nbO_oc, ix_l, ix_t, Cell.mu?, Cell.lst?, Mu.lst?, len_l, len_t, eIsi, isi_pr, isiD, tyS, List.lookup, gTup_pr, ix_pr0, ix_pr1, at2_0, at2_1, D.fit, D.pure, pures, D.py, pys, PyData.depth, PyData.depthAll, at3_0, at3_1, at3_2, set3_0, set3_1, set3_2, set2_0, set2_1, eq_ii, ne_ii, eq_ss, ne_ss, eq_bb, ne_bb, int_i, abs_i, Cell.put, putAt, len_scr, isN_int, isN_non, oc_mu, oc_noX, nbO_oc, sTry, trS, exS, Sr.out, dropX, noExn, Cell.noX, eXf, eXis, sRaiseB, eMethN, eMethX, noKey, isIns, eConI, eMkKN, eMkKX, eMkX, eMk, eFld, fldD, sFor, fSeq, seqD, eSFld, sFldS, putK, pow6, pow15, pow18, pow20, pow30, pow31, eOpX, eOpN, gSqD, EL]
  have g2 : gSet 5 (.int 0) (EL ns i m3 p (.val (.int k1)) (oc q6) (oc q7) (oc q8) (oc q9) (oc q10) (oc q11) (oc q12)) = some (EL ns i m3 p (.val (.int 0)) (oc q6) (oc q7) (oc q8) (oc q9) (oc q10) (oc q11) (oc q12)) := by simp [fnN, fnB, fnBF, sSeq, sRet, sRetF, sRetN, sIf, sSet, sNil, sExpr, sOwn, sPar, sAsg, sMut, sApp, sPut, eVar, eC, eOp, eCall, eAnd, eOr, eNot, eIf, eTup, eFr, fLst, Opd.ev, evs, Arg.dat, dats, vals?, op1, op2, appF, cells, Arg.cell, sls, wb, finC, eChain, bAnd, bOr, bNot, bBl, bTru, truth, lt_ii, le_ii, gt_ii, ge_ii, neg_i, add_ii, sub_ii, max_ii, min_ii, add_ll, add_tt, sizeLine_eq, gTupD, gsCons, gsNil, gSet, notBor_eq, nbO_val, nbO_no, nbO_own, nbO_oc, ix_l, ix_t, Cell.mu?, Cell.lst?, Mu.lst?, len_l, len_t, eIsi, isi_pr, isiD, tyS, List.lookup, gTup_pr, ix_pr0, ix_pr1, at2_0, at2_1, D.fit, D.pure, pures, D.py, pys, PyData.depth, PyData.depthAll, at3_0, at3_1, at3_2, set3_0, set3_1, set3_2, set2_0, set2_1, eq_ii, ne_ii, eq_ss, ne_ss, eq_bb, ne_bb, int_i, abs_i, Cell.put, putAt, len_scr, isN_int, isN_non, oc_mu, oc_noX, nbO_oc, sTry, trS, exS, Sr.out, dropX, noExn, Cell.noX, eXf, eXis, sRaiseB, eMethN, eMethX, noKey, isIns, eConI, eMkKN, eMkKX, eMkX, eMk, eFld, fldD, sFor, fSeq, seqD, eSFld, sFldS, putK, pow6, pow15, pow18, pow20, pow30, pow31, eOpX, eOpN, gSqD, EL]
  have g3 : gSet 5 (.int k2) (EL ns i m4 p (.val (.int 0)) (oc r6) (oc r7) (oc r8) (oc r9) (oc r10) (oc r11) (oc r12)) = some (EL ns i m4 p (.val (.int k2)) (oc r6) (oc r7) (oc r8) (oc r9) (oc r10) (oc r11) (oc r12)) := by simp [fnN, fnB, fnBF, sSeq, sRet, sRetF, sRetN, sIf, sSet, sNil, sExpr, sOwn, sPar, sAsg, sMut, sApp, sPut, eVar, eC, eOp, eCall, eAnd, eOr, eNot, eIf, eTup, eFr, fLst, Opd.ev, evs, Arg.dat, dats, vals?, op1, op2, appF, cells, Arg.cell, sls, wb, finC, eChain, bAnd, bOr, bNot, bBl, bTru, truth, lt_ii, le_ii, gt_ii, ge_ii, neg_i, add_ii, sub_ii, max_ii, min_ii, add_ll, add_tt, sizeLine_eq, gTupD, gsCons, gsNil, gSet, notBor_eq, nbO_val, nbO_no, nbO_own, nbO_oc, ix_l, ix_t, Cell.mu?, Cell.lst?, Mu.lst?, len_l, len_t, eIsi, isi_pr, isiD, tyS, List.lookup, gTup_pr, ix_pr0, ix_pr1, at2_0, at2_1, D.fit, D.pure, pures, D.py, pys, PyData.depth, PyData.depthAll, at3_0, at3_1, at3_2, set3_0, set3_1, set3_2, set2_0, set2_1, eq_ii, ne_ii, eq_ss, ne_ss, eq_bb, ne_bb, int_i, abs_i, Cell.put, putAt, len_scr, isN_int, isN_non, oc_mu, oc_noX, nbO_oc, sTry, trS, exS, Sr.out, dropX, noExn, Cell.noX, eXf, eXis, sRaiseB, eMethN, eMethX, noKey, isIns, eConI, eMkKN, eMkKX, eMkX, eMk, eFld, fldD, sFor, fSeq, seqD, eSFld, sFldS, putK, pow6, pow15, pow18, pow20, pow30, pow31, eOpX, eOpN, gSqD, EL]
  exact ⟨some (.int k2), u6, u7, u8, u9, u10, u11, u12, m5, for_ok it (by simp only [loopD, g1, t1, g2, t2, g3, t3]; rfl)⟩
end
def RW (ns : List Int) (c1 c2 c3 c4 c5 c6 c7 c8 c9 c10 c11 c12 : Cell) : PEnv := [.val (.scr ns), c1, c2, c3, c4, c5, c6, c7, c8, c9, c10, c11, c12, .no]
theorem cell_ok {ns : List Int} {i : Nat} {c2 : Cell} {o1 o3 o4 o5 o6 o7 o8 o9 o10 o11 o12 : Option D} (hi : i ≤ 63) (h2 : nbO (some c2) = true) : ∃ ρ1 ρ2, gSet 1 (.int i) (RW ns (oc o1) c2 (oc o3) (oc o4) (oc o5) (oc o6) (oc o7) (oc o8) (oc o9) (oc o10) (oc o11) (oc o12)) = some ρ1 ∧ b_law_3 ρ1 = .nx ρ2 ∧ ∃ c2' o1' o3' o4' o5' o6' o7' o8' o9' o10' o11' o12', nbO (some c2') = true ∧ ρ2 = RW ns (oc o1') c2' (oc o3') (oc o4') (oc o5') (oc o6') (oc o7') (oc o8') (oc o9') (oc o10') (oc o11') (oc o12') := by
  obtain ⟨ds, e1, b0⟩ := bag_ok (ns := ns) hi
  obtain ⟨p, m1, e2, hp, b1⟩ := stretch_ok b0 (by omega)
  have mk := span_made hp
  obtain ⟨q5, q6, q7, q8, q9, q10, q11, q12, m', e4⟩ := l8 (ns := ns) (i := i) (o5 := o5) (o6 := o6) (o7 := o7) (o8 := o8) (o9 := o9) (o10 := o10) (o11 := o11) (o12 := o12) hp b1 (by omega)
  refine ⟨RW ns (.val (.int i)) c2 (oc o3) (oc o4) (oc o5) (oc o6) (oc o7) (oc o8) (oc o9) (oc o10) (oc o11) (oc o12), EL ns i m' p (oc q5) (oc q6) (oc q7) (oc q8) (oc q9) (oc q10) (oc q11) (oc q12), by simp [fnN, fnB, fnBF, sSeq, sRet, sRetF, sRetN, sIf, sSet, sNil, sExpr, sOwn, sPar, sAsg, sMut, sApp, sPut, eVar, eC, eOp, eCall, eAnd, eOr, eNot, eIf, eTup, eFr, fLst, Opd.ev, evs, Arg.dat, dats, vals?, op1, op2, appF, cells, Arg.cell, sls, wb, finC, eChain, bAnd, bOr, bNot, bBl, bTru, truth, lt_ii, le_ii, gt_ii, ge_ii, neg_i, add_ii, sub_ii, max_ii, min_ii, add_ll, add_tt, sizeLine_eq, gTupD, gsCons, gsNil, gSet, notBor_eq, nbO_val, nbO_no, nbO_own, nbO_oc, ix_l, ix_t, Cell.mu?, Cell.lst?, Mu.lst?, len_l, len_t, eIsi, isi_pr, isiD, tyS, List.lookup, gTup_pr, ix_pr0, ix_pr1, at2_0, at2_1, D.fit, D.pure, pures, D.py, pys, PyData.depth, PyData.depthAll, at3_0, at3_1, at3_2, set3_0, set3_1, set3_2, set2_0, set2_1, eq_ii, ne_ii, eq_ss, ne_ss, eq_bb, ne_bb, int_i, abs_i, Cell.put, putAt, len_scr, isN_int, isN_non, oc_mu, oc_noX, nbO_oc, sTry, trS, exS, Sr.out, dropX, noExn, Cell.noX, eXf, eXis, sRaiseB, eMethN, eMethX, noKey, isIns, eConI, eMkKN, eMkKX, eMkX, eMk, eFld, fldD, sFor, fSeq, seqD, eSFld, sFldS, putK, pow6, pow15, pow18, pow20, pow30, pow31, eOpX, eOpN, gSqD, RW], ?_, .own m', some (.int i), some (prT p), some (spn p), q5, q6, q7, q8, q9, q10, q11, q12, rfl, rfl⟩
  have t1 : t_law_1 (RW ns (.val (.int i)) c2 (oc o3) (oc o4) (oc o5) (oc o6) (oc o7) (oc o8) (oc o9) (oc o10) (oc o11) (oc o12)) = .nx (RW ns (.val (.int i)) (.own (.lst ds)) (oc o3) (oc o4) (oc o5) (oc o6) (oc o7) (oc o8) (oc o9) (oc o10) (oc o11) (oc o12)) := by simp [fnN, fnB, fnBF, sSeq, sRet, sRetF, sRetN, sIf, sSet, sNil, sExpr, sOwn, sPar, sAsg, sMut, sApp, sPut, eVar, eC, eOp, eCall, eAnd, eOr, eNot, eIf, eTup, eFr, fLst, Opd.ev, evs, Arg.dat, dats, vals?, op1, op2, appF, cells, Arg.cell, sls, wb, finC, eChain, bAnd, bOr, bNot, bBl, bTru, truth, lt_ii, le_ii, gt_ii, ge_ii, neg_i, add_ii, sub_ii, max_ii, min_ii, add_ll, add_tt, sizeLine_eq, gTupD, gsCons, gsNil, gSet, notBor_eq, nbO_val, nbO_no, nbO_own, nbO_oc, ix_l, ix_t, Cell.mu?, Cell.lst?, Mu.lst?, len_l, len_t, eIsi, isi_pr, isiD, tyS, List.lookup, gTup_pr, ix_pr0, ix_pr1, at2_0, at2_1, D.fit, D.pure, pures, D.py, pys, PyData.depth, PyData.depthAll, at3_0, at3_1, at3_2, set3_0, set3_1, set3_2, set2_0, set2_1, eq_ii, ne_ii, eq_ss, ne_ss, eq_bb, ne_bb, int_i, abs_i, Cell.put, putAt, len_scr, isN_int, isN_non, oc_mu, oc_noX, nbO_oc, sTry, trS, exS, Sr.out, dropX, noExn, Cell.noX, eXf, eXis, sRaiseB, eMethN, eMethX, noKey, isIns, eConI, eMkKN, eMkKX, eMkX, eMk, eFld, fldD, sFor, fSeq, seqD, eSFld, sFldS, putK, pow6, pow15, pow18, pow20, pow30, pow31, eOpX, eOpN, gSqD, t_law_1, RW, e1, h2]
  have t2 : t_law_2 (RW ns (.val (.int i)) (.own (.lst ds)) (oc o3) (oc o4) (oc o5) (oc o6) (oc o7) (oc o8) (oc o9) (oc o10) (oc o11) (oc o12)) = .nx (RW ns (.val (.int i)) (.own m1) (.val (prT p)) (oc o4) (oc o5) (oc o6) (oc o7) (oc o8) (oc o9) (oc o10) (oc o11) (oc o12)) := by simp [fnN, fnB, fnBF, sSeq, sRet, sRetF, sRetN, sIf, sSet, sNil, sExpr, sOwn, sPar, sAsg, sMut, sApp, sPut, eVar, eC, eOp, eCall, eAnd, eOr, eNot, eIf, eTup, eFr, fLst, Opd.ev, evs, Arg.dat, dats, vals?, op1, op2, appF, cells, Arg.cell, sls, wb, finC, eChain, bAnd, bOr, bNot, bBl, bTru, truth, lt_ii, le_ii, gt_ii, ge_ii, neg_i, add_ii, sub_ii, max_ii, min_ii, add_ll, add_tt, sizeLine_eq, gTupD, gsCons, gsNil, gSet, notBor_eq, nbO_val, nbO_no, nbO_own, nbO_oc, ix_l, ix_t, Cell.mu?, Cell.lst?, Mu.lst?, len_l, len_t, eIsi, isi_pr, isiD, tyS, List.lookup, gTup_pr, ix_pr0, ix_pr1, at2_0, at2_1, D.fit, D.pure, pures, D.py, pys, PyData.depth, PyData.depthAll, at3_0, at3_1, at3_2, set3_0, set3_1, set3_2, set2_0, set2_1, eq_ii, ne_ii, eq_ss, ne_ss, eq_bb, ne_bb, int_i, abs_i, Cell.put, putAt, len_scr, isN_int, isN_non, oc_mu, oc_noX, nbO_oc, sTry, trS, exS, Sr.out, dropX, noExn, Cell.noX, eXf, eXis, sRaiseB, eMethN, eMethX, noKey, isIns, eConI, eMkKN, eMkKX, eMkX, eMk, eFld, fldD, sFor, fSeq, seqD, eSFld, sFldS, putK, pow6, pow15, pow18, pow20, pow30, pow31, eOpX, eOpN, gSqD, t_law_2, RW, e2]
  have t3 : t_law_3 (RW ns (.val (.int i)) (.own m1) (.val (prT p)) (oc o4) (oc o5) (oc o6) (oc o7) (oc o8) (oc o9) (oc o10) (oc o11) (oc o12)) = .nx (EL ns i m1 p (oc o5) (oc o6) (oc o7) (oc o8) (oc o9) (oc o10) (oc o11) (oc o12)) := by simp [fnN, fnB, fnBF, sSeq, sRet, sRetF, sRetN, sIf, sSet, sNil, sExpr, sOwn, sPar, sAsg, sMut, sApp, sPut, eVar, eC, eOp, eCall, eAnd, eOr, eNot, eIf, eTup, eFr, fLst, Opd.ev, evs, Arg.dat, dats, vals?, op1, op2, appF, cells, Arg.cell, sls, wb, finC, eChain, bAnd, bOr, bNot, bBl, bTru, truth, lt_ii, le_ii, gt_ii, ge_ii, neg_i, add_ii, sub_ii, max_ii, min_ii, add_ll, add_tt, sizeLine_eq, gTupD, gsCons, gsNil, gSet, notBor_eq, nbO_val, nbO_no, nbO_own, nbO_oc, ix_l, ix_t, Cell.mu?, Cell.lst?, Mu.lst?, len_l, len_t, eIsi, isi_pr, isiD, tyS, List.lookup, gTup_pr, ix_pr0, ix_pr1, at2_0, at2_1, D.fit, D.pure, pures, D.py, pys, PyData.depth, PyData.depthAll, at3_0, at3_1, at3_2, set3_0, set3_1, set3_2, set2_0, set2_1, eq_ii, ne_ii, eq_ss, ne_ss, eq_bb, ne_bb, int_i, abs_i, Cell.put, putAt, len_scr, isN_int, isN_non, oc_mu, oc_noX, nbO_oc, sTry, trS, exS, Sr.out, dropX, noExn, Cell.noX, eXf, eXis, sRaiseB, eMethN, eMethX, noKey, isIns, eConI, eMkKN, eMkKX, eMkX, eMk, eFld, fldD, sFor, fSeq, seqD, eSFld, sFldS, putK, pow6, pow15, pow18, pow20, pow30, pow31, eOpX, eOpN, gSqD, t_law_3, RW, EL, mk]
  unfold b_law_3
  rw [seq_nx t1, seq_nx t2, seq_nx t3, e4]
theorem law_run (ns : List Int) (hn : ns.length ≤ 63) : ∃ es, fn_law [.val (.scr ns)] = .ok (.bl true) es := by
  let k : Int := if (1 : Int) < (ns.length : Int) then (ns.length : Int) else 1
  have k0 : 0 ≤ k := by show 0 ≤ ite _ _ _; split <;> omega
  have k1 : k ≤ 63 := by show ite _ _ _ ≤ (63 : Int); split <;> omega
  have ek : eOp (op2 maxD) [(.ex (eC (.int 1))), (.ex (eOp (op1 lenD) [(.ex (eVar 0))]))] (RW ns .no .no .no .no .no .no .no .no .no .no .no .no) = .ok (.int k) (RW ns .no .no .no .no .no .no .no .no .no .no .no .no) := by
    show _ = Rs.ok (D.int (if (1 : Int) < (ns.length : Int) then (ns.length : Int) else 1)) _
    simp [fnN, fnB, fnBF, sSeq, sRet, sRetF, sRetN, sIf, sSet, sNil, sExpr, sOwn, sPar, sAsg, sMut, sApp, sPut, eVar, eC, eOp, eCall, eAnd, eOr, eNot, eIf, eTup, eFr, fLst, Opd.ev, evs, Arg.dat, dats, vals?, op1, op2, appF, cells, Arg.cell, sls, wb, finC, eChain, bAnd, bOr, bNot, bBl, bTru, truth, lt_ii, le_ii, gt_ii, ge_ii, neg_i, add_ii, sub_ii, max_ii, min_ii, add_ll, add_tt, sizeLine_eq, gTupD, gsCons, gsNil, gSet, notBor_eq, nbO_val, nbO_no, nbO_own, nbO_oc, ix_l, ix_t, Cell.mu?, Cell.lst?, Mu.lst?, len_l, len_t, eIsi, isi_pr, isiD, tyS, List.lookup, gTup_pr, ix_pr0, ix_pr1, at2_0, at2_1, D.fit, D.pure, pures, D.py, pys, PyData.depth, PyData.depthAll, at3_0, at3_1, at3_2, set3_0, set3_1, set3_2, set2_0, set2_1, eq_ii, ne_ii, eq_ss, ne_ss, eq_bb, ne_bb, int_i, abs_i, Cell.put, putAt, len_scr, isN_int, isN_non, oc_mu, oc_noX, nbO_oc, sTry, trS, exS, Sr.out, dropX, noExn, Cell.noX, eXf, eXis, sRaiseB, eMethN, eMethX, noKey, isIns, eConI, eMkKN, eMkKX, eMkX, eMk, eFld, fldD, sFor, fSeq, seqD, eSFld, sFldS, putK, pow6, pow15, pow18, pow20, pow30, pow31, eOpX, eOpN, gSqD, RW]
  obtain ⟨ρ', e3, c2, o1, o3, o4, o5, o6, o7, o8, o9, o10, o11, o12, _, rfl⟩ := loop_c (g := gSet 1) (body := b_law_3) (fun d => ∃ i : Nat, i ≤ 63 ∧ d = .int i) (fun ρ => ∃ c2' o1' o3' o4' o5' o6' o7' o8' o9' o10' o11' o12', nbO (some c2') = true ∧ ρ = RW ns (oc o1') c2' (oc o3') (oc o4') (oc o5') (oc o6') (oc o7') (oc o8') (oc o9') (oc o10') (oc o11') (oc o12')) (by
      rintro d ρ ⟨i, hi, rfl⟩ ⟨c2, o1, o3, o4, o5, o6, o7, o8, o9, o10, o11, o12, h2, rfl⟩
      exact cell_ok hi h2)
    (rngD 0 k.toNat) (RW ns .no .no .no .no .no .no .no .no .no .no .no .no) (by
      intro d hd
      obtain ⟨i, hi, rfl⟩ := rngD_mem hd
      exact ⟨i, by omega, rfl⟩) ⟨.no, none, none, none, none, none, none, none, none, none, none, none, rfl, rfl⟩
  have e9 : t_law_9 (RW ns .no .no .no .no .no .no .no .no .no .no .no .no) = .nx (RW ns (oc o1) c2 (oc o3) (oc o4) (oc o5) (oc o6) (oc o7) (oc o8) (oc o9) (oc o10) (oc o11) (oc o12)) := for_ok (rng1_ok ek (by omega) (by omega)) e3
  refine ⟨_, fn_rt (d := .bl true) (ρ := RW ns (oc o1) c2 (oc o3) (oc o4) (oc o5) (oc o6) (oc o7) (oc o8) (oc o9) (oc o10) (oc o11) (oc o12)) ?_ rfl⟩
  show sem_law (RW ns .no .no .no .no .no .no .no .no .no .no .no .no) = _
  unfold sem_law
  rw [seq_nx e9]
  rfl
end Spk

namespace Spk
open PySem PySem.Spec PyProof.Rows L2
section
theorem all_mk {l : PySem.W.OpenLaw} {w : World} {K : PySem.W.Frag} {h : Heap} {mg : Str → Option Value} {fa : Addr} {t_FIRST : Tok} {t_LAST : Tok} {t_FAR : Tok} {C_BadEdge fI_BadEdge NS_BadEdge : Addr} {nm_BadEdge qn_BadEdge : Str} {bs_BadEdge sub_BadEdge : List Value} {sn_BadEdge : List Str} {ab_BadEdge : Bool} {col_BadEdge : Option Bool} {dd_BadEdge : Option Addr} {m0_BadEdge m1_BadEdge m2_BadEdge m3_BadEdge m5_BadEdge : Option Value} {iod_BadEdge ian_BadEdge : Option Addr} {isl_BadEdge : Array (Option Value)} {ioc_BadEdge ikV_BadEdge idc_BadEdge ipm_BadEdge icd_BadEdge ict_BadEdge : Value} {C_BadSpan fI_BadSpan NS_BadSpan : Addr} {nm_BadSpan qn_BadSpan : Str} {bs_BadSpan sub_BadSpan : List Value} {sn_BadSpan : List Str} {ab_BadSpan : Bool} {col_BadSpan : Option Bool} {dd_BadSpan : Option Addr} {m0_BadSpan m1_BadSpan m2_BadSpan m3_BadSpan m5_BadSpan : Option Value} {iod_BadSpan ian_BadSpan : Option Addr} {isl_BadSpan : Array (Option Value)} {ioc_BadSpan ikV_BadSpan idc_BadSpan ipm_BadSpan icd_BadSpan ict_BadSpan : Value} {C_TooFar fI_TooFar NS_TooFar : Addr} {nm_TooFar qn_TooFar : Str} {bs_TooFar sub_TooFar : List Value} {sn_TooFar : List Str} {ab_TooFar : Bool} {col_TooFar : Option Bool} {dd_TooFar : Option Addr} {m0_TooFar m1_TooFar m2_TooFar m3_TooFar m5_TooFar : Option Value} {iod_TooFar ian_TooFar : Option Addr} {isl_TooFar : Array (Option Value)} {ioc_TooFar ikV_TooFar idc_TooFar ipm_TooFar icd_TooFar ict_TooFar : Value} {A_Span : Addr} {f_l_bag : Addr} {od_l_bag an_l_bag : Option Addr} {sl_l_bag : Array (Option Value)} {oc_l_bag kV_l_bag dc_l_bag pm_l_bag cd_l_bag ct_l_bag : Value} {f_l_take : Addr} {od_l_take an_l_take : Option Addr} {sl_l_take : Array (Option Value)} {oc_l_take kV_l_take dc_l_take pm_l_take cd_l_take ct_l_take : Value} {f_l_edge : Addr} {od_l_edge an_l_edge : Option Addr} {sl_l_edge : Array (Option Value)} {oc_l_edge kV_l_edge dc_l_edge pm_l_edge cd_l_edge ct_l_edge : Value} {f_l_stretch : Addr} {od_l_stretch an_l_stretch : Option Addr} {sl_l_stretch : Array (Option Value)} {oc_l_stretch kV_l_stretch dc_l_stretch pm_l_stretch cd_l_stretch ct_l_stretch : Value} {f_is_number : Addr} {od_is_number an_is_number : Option Addr} {sl_is_number : Array (Option Value)} {oc_is_number kV_is_number dc_is_number pm_is_number cd_is_number ct_is_number : Value} {f_is_edge : Addr} {od_is_edge an_is_edge : Option Addr} {sl_is_edge : Array (Option Value)} {oc_is_edge kV_is_edge dc_is_edge pm_is_edge cd_is_edge ct_is_edge : Value} {f_is_pair : Addr} {od_is_pair an_is_pair : Option Addr} {sl_is_pair : Array (Option Value)} {oc_is_pair kV_is_pair dc_is_pair pm_is_pair cd_is_pair ct_is_pair : Value} {f_is_stretch : Addr} {od_is_stretch an_is_stretch : Option Addr} {sl_is_stretch : Array (Option Value)} {oc_is_stretch kV_is_stretch dc_is_stretch pm_is_stretch cd_is_stretch ct_is_stretch : Value} {f_Span_init : Addr} {od_Span_init an_Span_init : Option Addr} {sl_Span_init : Array (Option Value)} {oc_Span_init kV_Span_init dc_Span_init pm_Span_init cd_Span_init ct_Span_init : Value} {f_l_shift : Addr} {od_l_shift an_l_shift : Option Addr} {sl_l_shift : Array (Option Value)} {oc_l_shift kV_l_shift dc_l_shift pm_l_shift cd_l_shift ct_l_shift : Value} {f_l_due : Addr} {od_l_due an_l_due : Option Addr} {sl_l_due : Array (Option Value)} {oc_l_due kV_l_due dc_l_due pm_l_due cd_l_due ct_l_due : Value} {f_Span_pair : Addr} {od_Span_pair an_Span_pair : Option Addr} {sl_Span_pair : Array (Option Value)} {oc_Span_pair kV_Span_pair dc_Span_pair pm_Span_pair cd_Span_pair ct_Span_pair : Value} {P_Span_pair : Addr} {rest_Span_pair : List Value} {f_shifted_edge : Addr} {od_shifted_edge an_shifted_edge : Option Addr} {sl_shifted_edge : Array (Option Value)} {oc_shifted_edge kV_shifted_edge dc_shifted_edge pm_shifted_edge cd_shifted_edge ct_shifted_edge : Value} {f_shifted : Addr} {od_shifted an_shifted : Option Addr} {sl_shifted : Array (Option Value)} {oc_shifted kV_shifted dc_shifted pm_shifted cd_shifted ct_shifted : Value} {f_Span_add : Addr} {od_Span_add an_Span_add : Option Addr} {sl_Span_add : Array (Option Value)} {oc_Span_add kV_Span_add dc_Span_add pm_Span_add cd_Span_add ct_Span_add : Value} {f_Span_radd : Addr} {od_Span_radd an_Span_radd : Option Addr} {sl_Span_radd : Array (Option Value)} {oc_Span_radd kV_Span_radd dc_Span_radd pm_Span_radd cd_Span_radd ct_Span_radd : Value} {f_Span_sub : Addr} {od_Span_sub an_Span_sub : Option Addr} {sl_Span_sub : Array (Option Value)} {oc_Span_sub kV_Span_sub dc_Span_sub pm_Span_sub cd_Span_sub ct_Span_sub : Value} {f_l_shifted : Addr} {od_l_shifted an_l_shifted : Option Addr} {sl_l_shifted : Array (Option Value)} {oc_l_shifted kV_l_shifted dc_l_shifted pm_l_shifted cd_l_shifted ct_l_shifted : Value} {f_Span_eq : Addr} {od_Span_eq an_Span_eq : Option Addr} {sl_Span_eq : Array (Option Value)} {oc_Span_eq kV_Span_eq dc_Span_eq pm_Span_eq cd_Span_eq ct_Span_eq : Value} {f_is_moment : Addr} {od_is_moment an_is_moment : Option Addr} {sl_is_moment : Array (Option Value)} {oc_is_moment kV_is_moment dc_is_moment pm_is_moment cd_is_moment ct_is_moment : Value} {f_Span_contains : Addr} {od_Span_contains an_Span_contains : Option Addr} {sl_Span_contains : Array (Option Value)} {oc_Span_contains kV_Span_contains dc_Span_contains pm_Span_contains cd_Span_contains ct_Span_contains : Value} {f_law : Addr} {od_law an_law : Option Addr} {sl_law : Array (Option Value)} {oc_law kV_law dc_law pm_law cd_law ct_law : Value} {fa_Span___radd__ : Addr} {qa_Span qb_Span : Str} {qc_Span qd_Span : List Value} {qe_Span : Addr} {qf_Span qg_Span qh_Span : Bool} {qi_Span : List Str} {qj_Span : Option Bool} {fa_Span___add__ : Addr} (X : K.In h) (G : h.Ns mainGlobals mg) (hfa : mg "law" = some (.ref fa))
    (z_OverflowError : PySem.W.nsIn K mainGlobals "OverflowError" = some none)
    (z_abs : PySem.W.nsIn K mainGlobals "abs" = some none)
    (z_bool : PySem.W.nsIn K mainGlobals "bool" = some none)
    (z_int : PySem.W.nsIn K mainGlobals "int" = some none)
    (z_isinstance : PySem.W.nsIn K mainGlobals "isinstance" = some none)
    (z_len : PySem.W.nsIn K mainGlobals "len" = some none)
    (z_max : PySem.W.nsIn K mainGlobals "max" = some none)
    (z_min : PySem.W.nsIn K mainGlobals "min" = some none)
    (z_range : PySem.W.nsIn K mainGlobals "range" = some none)
    (z_repr : PySem.W.nsIn K mainGlobals "repr" = some none)
    (z_str : PySem.W.nsIn K mainGlobals "str" = some none)
    (z_tuple : PySem.W.nsIn K mainGlobals "tuple" = some none)
    (c_FIRST : PySem.W.nsIn K mainGlobals "FIRST" = some (some (.int (-10000000000000000000000000000000) t_FIRST)))
    (c_LAST : PySem.W.nsIn K mainGlobals "LAST" = some (some (.int (10000000000000000000000000000000) t_LAST)))
    (c_FAR : PySem.W.nsIn K mainGlobals "FAR" = some (some (.int (1000000000000000000000000000000) t_FAR)))
    (eg_BadEdge : PySem.W.nsIn K mainGlobals "BadEdge" = some (some (.ref C_BadEdge)))
    (ex_BadEdge : K.lookup C_BadEdge = some (excClassObj nm_BadEdge qn_BadEdge C_BadEdge NS_BadEdge bs_BadEdge [.type "ValueError", .type "Exception", .type "BaseException", .type "object"] true sn_BadEdge sub_BadEdge ab_BadEdge col_BadEdge dd_BadEdge m0_BadEdge m1_BadEdge m2_BadEdge m3_BadEdge m5_BadEdge "ValueError.__new__"))
    (esa_BadEdge : PySem.W.findIn K (.ref C_BadEdge) "__setattr__" = some (some (.builtin "object.__setattr__")))
    (ega_BadEdge : PySem.W.findIn K (.ref C_BadEdge) "__getattribute__" = some (some (.builtin "BaseException.__getattribute__")))
    (egg_BadEdge : PySem.W.findIn K (.ref C_BadEdge) "__getattr__" = some none)
    (enf_BadEdge : PySem.W.findIn K (.ref C_BadEdge) "edge" = some none)
    (ekC_BadEdge : PySem.W.keepIn K (.ref C_BadEdge) = true)
    (eeC_BadEdge : PySem.W.subIn K (.ref C_BadEdge) (.type "BaseException") = some true)
    (etC_BadEdge : PySem.W.typeIn K (.ref C_BadEdge) = some (.type "type"))
    (ehC_BadEdge : PySem.W.hasDictIn K C_BadEdge = true)
    (eiC_BadEdge : PySem.W.isClsIn K C_BadEdge = true)
    (esC_BadEdge : PySem.W.subIn K (.ref C_BadEdge) (.ref C_BadEdge) = some true)
    (eai_BadEdge : PySem.W.findIn K (.ref C_BadEdge) "__init__" = some (some (.ref fI_BadEdge)))
    (eti_BadEdge : PySem.W.typeIn K (.ref fI_BadEdge) = some (.type "function"))
    (eli_BadEdge : K.lookup fI_BadEdge = some ⟨ioc_BadEdge, iod_BadEdge, .func (PySem.W.fnOf "__init__" "BadEdge.__init__" (defArgs (inClass (topS 2) 0)) (defBody (inClass (topS 2) 0)) (defScope (inClass (topS 2) 0)) .none ikV_BadEdge idc_BadEdge ipm_BadEdge ian_BadEdge icd_BadEdge ict_BadEdge), isl_BadEdge⟩)
    (eci_BadEdge : PySem.W.codeIn K icd_BadEdge "BadEdge.__init__" = true)
    (eki_BadEdge : PySem.W.keepIn K (.ref fI_BadEdge) = true)
    (eg_BadSpan : PySem.W.nsIn K mainGlobals "BadSpan" = some (some (.ref C_BadSpan)))
    (ex_BadSpan : K.lookup C_BadSpan = some (excClassObj nm_BadSpan qn_BadSpan C_BadSpan NS_BadSpan bs_BadSpan [.type "ValueError", .type "Exception", .type "BaseException", .type "object"] true sn_BadSpan sub_BadSpan ab_BadSpan col_BadSpan dd_BadSpan m0_BadSpan m1_BadSpan m2_BadSpan m3_BadSpan m5_BadSpan "ValueError.__new__"))
    (esa_BadSpan : PySem.W.findIn K (.ref C_BadSpan) "__setattr__" = some (some (.builtin "object.__setattr__")))
    (ega_BadSpan : PySem.W.findIn K (.ref C_BadSpan) "__getattribute__" = some (some (.builtin "BaseException.__getattribute__")))
    (egg_BadSpan : PySem.W.findIn K (.ref C_BadSpan) "__getattr__" = some none)
    (enf_BadSpan : PySem.W.findIn K (.ref C_BadSpan) "span" = some none)
    (ekC_BadSpan : PySem.W.keepIn K (.ref C_BadSpan) = true)
    (eeC_BadSpan : PySem.W.subIn K (.ref C_BadSpan) (.type "BaseException") = some true)
    (etC_BadSpan : PySem.W.typeIn K (.ref C_BadSpan) = some (.type "type"))
    (ehC_BadSpan : PySem.W.hasDictIn K C_BadSpan = true)
    (eiC_BadSpan : PySem.W.isClsIn K C_BadSpan = true)
    (esC_BadSpan : PySem.W.subIn K (.ref C_BadSpan) (.ref C_BadSpan) = some true)
    (eai_BadSpan : PySem.W.findIn K (.ref C_BadSpan) "__init__" = some (some (.ref fI_BadSpan)))
    (eti_BadSpan : PySem.W.typeIn K (.ref fI_BadSpan) = some (.type "function"))
    (eli_BadSpan : K.lookup fI_BadSpan = some ⟨ioc_BadSpan, iod_BadSpan, .func (PySem.W.fnOf "__init__" "BadSpan.__init__" (defArgs (inClass (topS 3) 0)) (defBody (inClass (topS 3) 0)) (defScope (inClass (topS 3) 0)) .none ikV_BadSpan idc_BadSpan ipm_BadSpan ian_BadSpan icd_BadSpan ict_BadSpan), isl_BadSpan⟩)
    (eci_BadSpan : PySem.W.codeIn K icd_BadSpan "BadSpan.__init__" = true)
    (eki_BadSpan : PySem.W.keepIn K (.ref fI_BadSpan) = true)
    (eg_TooFar : PySem.W.nsIn K mainGlobals "TooFar" = some (some (.ref C_TooFar)))
    (ex_TooFar : K.lookup C_TooFar = some (excClassObj nm_TooFar qn_TooFar C_TooFar NS_TooFar bs_TooFar [.type "OverflowError", .type "ArithmeticError", .type "Exception", .type "BaseException", .type "object"] true sn_TooFar sub_TooFar ab_TooFar col_TooFar dd_TooFar m0_TooFar m1_TooFar m2_TooFar m3_TooFar m5_TooFar "OverflowError.__new__"))
    (esa_TooFar : PySem.W.findIn K (.ref C_TooFar) "__setattr__" = some (some (.builtin "object.__setattr__")))
    (ega_TooFar : PySem.W.findIn K (.ref C_TooFar) "__getattribute__" = some (some (.builtin "BaseException.__getattribute__")))
    (egg_TooFar : PySem.W.findIn K (.ref C_TooFar) "__getattr__" = some none)
    (enf_TooFar : PySem.W.findIn K (.ref C_TooFar) "edge" = some none)
    (ekC_TooFar : PySem.W.keepIn K (.ref C_TooFar) = true)
    (eeC_TooFar : PySem.W.subIn K (.ref C_TooFar) (.type "BaseException") = some true)
    (etC_TooFar : PySem.W.typeIn K (.ref C_TooFar) = some (.type "type"))
    (ehC_TooFar : PySem.W.hasDictIn K C_TooFar = true)
    (eiC_TooFar : PySem.W.isClsIn K C_TooFar = true)
    (esC_TooFar : PySem.W.subIn K (.ref C_TooFar) (.ref C_TooFar) = some true)
    (eai_TooFar : PySem.W.findIn K (.ref C_TooFar) "__init__" = some (some (.ref fI_TooFar)))
    (eti_TooFar : PySem.W.typeIn K (.ref fI_TooFar) = some (.type "function"))
    (eli_TooFar : K.lookup fI_TooFar = some ⟨ioc_TooFar, iod_TooFar, .func (PySem.W.fnOf "__init__" "TooFar.__init__" (defArgs (inClass (topS 4) 0)) (defBody (inClass (topS 4) 0)) (defScope (inClass (topS 4) 0)) .none ikV_TooFar idc_TooFar ipm_TooFar ian_TooFar icd_TooFar ict_TooFar), isl_TooFar⟩)
    (eci_TooFar : PySem.W.codeIn K icd_TooFar "TooFar.__init__" = true)
    (eki_TooFar : PySem.W.keepIn K (.ref fI_TooFar) = true)
    (exs_BadEdge_TooFar : PySem.W.subIn K (.ref C_BadEdge) (.ref C_TooFar) = some false)
    (exs_BadSpan_TooFar : PySem.W.subIn K (.ref C_BadSpan) (.ref C_TooFar) = some false)
    (xis_BadEdge_OverflowError : PySem.W.subIn K (.ref C_BadEdge) (.type "OverflowError") = some false)
    (xis_BadSpan_OverflowError : PySem.W.subIn K (.ref C_BadSpan) (.type "OverflowError") = some false)
    (xis_TooFar_OverflowError : PySem.W.subIn K (.ref C_TooFar) (.type "OverflowError") = some true)
    (xha_BadEdge : PySem.W.findIn K (.ref C_BadEdge) "__class__" = some (some (.builtin "object.__class__")))
    (xhm_BadEdge : PySem.W.mroIn K C_BadEdge (.type "object") = some true)
    (xha_BadSpan : PySem.W.findIn K (.ref C_BadSpan) "__class__" = some (some (.builtin "object.__class__")))
    (xhm_BadSpan : PySem.W.mroIn K C_BadSpan (.type "object") = some true)
    (xha_TooFar : PySem.W.findIn K (.ref C_TooFar) "__class__" = some (some (.builtin "object.__class__")))
    (xhm_TooFar : PySem.W.mroIn K C_TooFar (.type "object") = some true)
    (at_Span : PySem.W.nsIn K mainGlobals "Span" = some (some (.ref A_Span)))
    (pg_Span : PySem.W.plainGet K A_Span Str.empty = true)
    (hd_Span : PySem.W.hasDictIn K A_Span = true)
    (po_Span : PySem.W.plainOver K A_Span = true)
    (sa_Span : PySem.W.findIn K (.ref A_Span) "__setattr__" = some (some (.builtin "object.__setattr__")))
    (mk_Span : PySem.W.makesIn K A_Span = true)
    (kc_Span : PySem.W.keepIn K (.ref A_Span) = true)
    (no_Span_begin : PySem.W.findIn K (.ref A_Span) "begin" = some none)
    (no_Span_end : PySem.W.findIn K (.ref A_Span) "end" = some none)
    (ha_Span : PySem.W.findIn K (.ref A_Span) "__class__" = some (some (.builtin "object.__class__")))
    (hm_Span : PySem.W.mroIn K A_Span (.type "object") = some true)
    (rd_Span : PySem.W.readsIn K A_Span (.type "type") = true)
    (ga_Span : PySem.W.specialIn K (.ref A_Span) "__getattribute__" = some (some (.builtin "type.__getattribute__")))
    (is_Span : PySem.W.isClsIn K A_Span = true)
    (ty_Span : PySem.W.typeIn K (.ref A_Span) = some (.type "type"))
    (ss_Span : PySem.W.subIn K (.ref A_Span) (.ref A_Span) = some true)
    (se_Span : PySem.W.selfFirst K A_Span = true)
    (si_Span_int : PySem.W.subIn K (.ref A_Span) (.type "int") = some false)
    (si_Span_bool : PySem.W.subIn K (.ref A_Span) (.type "bool") = some false)
    (si_Span_tuple : PySem.W.subIn K (.ref A_Span) (.type "tuple") = some false)
    (ic_n : PySem.W.specialIn K (.builtin "object.__class__") "__get__" = some (some (.builtin "getset_descriptor.__get__")))
    (ic_t : PySem.W.takesIn K (.builtin "object.__class__") = some true)
    (a_l_bag : PySem.W.nsIn K mainGlobals "_law_bag" = some (some (.ref f_l_bag)))
    (l_l_bag : K.lookup f_l_bag = some ⟨oc_l_bag, od_l_bag, .func (PySem.W.fnOf "_law_bag" "_law_bag" (defArgs s_l_bag) (defBody s_l_bag) (defScope s_l_bag) .none kV_l_bag dc_l_bag pm_l_bag an_l_bag cd_l_bag ct_l_bag), sl_l_bag⟩)
    (c_l_bag : PySem.W.codeIn K cd_l_bag "_law_bag" = true)
    (k_l_bag : PySem.W.keepIn K (.ref f_l_bag) = true)
    (a_l_take : PySem.W.nsIn K mainGlobals "_law_take" = some (some (.ref f_l_take)))
    (l_l_take : K.lookup f_l_take = some ⟨oc_l_take, od_l_take, .func (PySem.W.fnOf "_law_take" "_law_take" (defArgs s_l_take) (defBody s_l_take) (defScope s_l_take) .none kV_l_take dc_l_take pm_l_take an_l_take cd_l_take ct_l_take), sl_l_take⟩)
    (c_l_take : PySem.W.codeIn K cd_l_take "_law_take" = true)
    (k_l_take : PySem.W.keepIn K (.ref f_l_take) = true)
    (a_l_edge : PySem.W.nsIn K mainGlobals "_law_edge" = some (some (.ref f_l_edge)))
    (l_l_edge : K.lookup f_l_edge = some ⟨oc_l_edge, od_l_edge, .func (PySem.W.fnOf "_law_edge" "_law_edge" (defArgs s_l_edge) (defBody s_l_edge) (defScope s_l_edge) .none kV_l_edge dc_l_edge pm_l_edge an_l_edge cd_l_edge ct_l_edge), sl_l_edge⟩)
    (c_l_edge : PySem.W.codeIn K cd_l_edge "_law_edge" = true)
    (k_l_edge : PySem.W.keepIn K (.ref f_l_edge) = true)
    (a_l_stretch : PySem.W.nsIn K mainGlobals "_law_stretch" = some (some (.ref f_l_stretch)))
    (l_l_stretch : K.lookup f_l_stretch = some ⟨oc_l_stretch, od_l_stretch, .func (PySem.W.fnOf "_law_stretch" "_law_stretch" (defArgs s_l_stretch) (defBody s_l_stretch) (defScope s_l_stretch) .none kV_l_stretch dc_l_stretch pm_l_stretch an_l_stretch cd_l_stretch ct_l_stretch), sl_l_stretch⟩)
    (c_l_stretch : PySem.W.codeIn K cd_l_stretch "_law_stretch" = true)
    (k_l_stretch : PySem.W.keepIn K (.ref f_l_stretch) = true)
    (a_is_number : PySem.W.nsIn K mainGlobals "is_number" = some (some (.ref f_is_number)))
    (l_is_number : K.lookup f_is_number = some ⟨oc_is_number, od_is_number, .func (PySem.W.fnOf "is_number" "is_number" (defArgs s_is_number) (defBody s_is_number) (defScope s_is_number) .none kV_is_number dc_is_number pm_is_number an_is_number cd_is_number ct_is_number), sl_is_number⟩)
    (c_is_number : PySem.W.codeIn K cd_is_number "is_number" = true)
    (k_is_number : PySem.W.keepIn K (.ref f_is_number) = true)
    (a_is_edge : PySem.W.nsIn K mainGlobals "is_edge" = some (some (.ref f_is_edge)))
    (l_is_edge : K.lookup f_is_edge = some ⟨oc_is_edge, od_is_edge, .func (PySem.W.fnOf "is_edge" "is_edge" (defArgs s_is_edge) (defBody s_is_edge) (defScope s_is_edge) .none kV_is_edge dc_is_edge pm_is_edge an_is_edge cd_is_edge ct_is_edge), sl_is_edge⟩)
    (c_is_edge : PySem.W.codeIn K cd_is_edge "is_edge" = true)
    (k_is_edge : PySem.W.keepIn K (.ref f_is_edge) = true)
    (a_is_pair : PySem.W.nsIn K mainGlobals "is_pair" = some (some (.ref f_is_pair)))
    (l_is_pair : K.lookup f_is_pair = some ⟨oc_is_pair, od_is_pair, .func (PySem.W.fnOf "is_pair" "is_pair" (defArgs s_is_pair) (defBody s_is_pair) (defScope s_is_pair) .none kV_is_pair dc_is_pair pm_is_pair an_is_pair cd_is_pair ct_is_pair), sl_is_pair⟩)
    (c_is_pair : PySem.W.codeIn K cd_is_pair "is_pair" = true)
    (k_is_pair : PySem.W.keepIn K (.ref f_is_pair) = true)
    (a_is_stretch : PySem.W.nsIn K mainGlobals "is_stretch" = some (some (.ref f_is_stretch)))
    (l_is_stretch : K.lookup f_is_stretch = some ⟨oc_is_stretch, od_is_stretch, .func (PySem.W.fnOf "is_stretch" "is_stretch" (defArgs s_is_stretch) (defBody s_is_stretch) (defScope s_is_stretch) .none kV_is_stretch dc_is_stretch pm_is_stretch an_is_stretch cd_is_stretch ct_is_stretch), sl_is_stretch⟩)
    (c_is_stretch : PySem.W.codeIn K cd_is_stretch "is_stretch" = true)
    (k_is_stretch : PySem.W.keepIn K (.ref f_is_stretch) = true)
    (a_Span_init : PySem.W.findIn K (.ref A_Span) "__init__" = some (some (.ref f_Span_init)))
    (l_Span_init : K.lookup f_Span_init = some ⟨oc_Span_init, od_Span_init, .func (PySem.W.fnOf "__init__" "Span.__init__" (defArgs s_Span_init) (defBody s_Span_init) (defScope s_Span_init) .none kV_Span_init dc_Span_init pm_Span_init an_Span_init cd_Span_init ct_Span_init), sl_Span_init⟩)
    (c_Span_init : PySem.W.codeIn K cd_Span_init "Span.__init__" = true)
    (k_Span_init : PySem.W.keepIn K (.ref f_Span_init) = true)
    (i_Span_init : PySem.W.isFn K (.ref f_Span_init) = true)
    (a_l_shift : PySem.W.nsIn K mainGlobals "_law_shift" = some (some (.ref f_l_shift)))
    (l_l_shift : K.lookup f_l_shift = some ⟨oc_l_shift, od_l_shift, .func (PySem.W.fnOf "_law_shift" "_law_shift" (defArgs s_l_shift) (defBody s_l_shift) (defScope s_l_shift) .none kV_l_shift dc_l_shift pm_l_shift an_l_shift cd_l_shift ct_l_shift), sl_l_shift⟩)
    (c_l_shift : PySem.W.codeIn K cd_l_shift "_law_shift" = true)
    (k_l_shift : PySem.W.keepIn K (.ref f_l_shift) = true)
    (a_l_due : PySem.W.nsIn K mainGlobals "_law_due" = some (some (.ref f_l_due)))
    (l_l_due : K.lookup f_l_due = some ⟨oc_l_due, od_l_due, .func (PySem.W.fnOf "_law_due" "_law_due" (defArgs s_l_due) (defBody s_l_due) (defScope s_l_due) .none kV_l_due dc_l_due pm_l_due an_l_due cd_l_due ct_l_due), sl_l_due⟩)
    (c_l_due : PySem.W.codeIn K cd_l_due "_law_due" = true)
    (k_l_due : PySem.W.keepIn K (.ref f_l_due) = true)
    (a_Span_pair : PySem.W.findIn K (.ref A_Span) "pair" = some (some (.ref P_Span_pair)))
    (g_Span_pair : PySem.W.specialIn K (.ref P_Span_pair) "__get__" = some (some (.builtin "property.__get__")))
    (t_Span_pair : PySem.W.takesIn K (.ref P_Span_pair) = some true)
    (r_Span_pair : PySem.W.recIn K P_Span_pair "property" = some (.ref f_Span_pair :: rest_Span_pair))
    (l_Span_pair : K.lookup f_Span_pair = some ⟨oc_Span_pair, od_Span_pair, .func (PySem.W.fnOf "pair" "Span.pair" (defArgs s_Span_pair) (defBody s_Span_pair) (defScope s_Span_pair) .none kV_Span_pair dc_Span_pair pm_Span_pair an_Span_pair cd_Span_pair ct_Span_pair), sl_Span_pair⟩)
    (c_Span_pair : PySem.W.codeIn K cd_Span_pair "Span.pair" = true)
    (k_Span_pair : PySem.W.keepIn K (.ref f_Span_pair) = true)
    (a_shifted_edge : PySem.W.nsIn K mainGlobals "shifted_edge" = some (some (.ref f_shifted_edge)))
    (l_shifted_edge : K.lookup f_shifted_edge = some ⟨oc_shifted_edge, od_shifted_edge, .func (PySem.W.fnOf "shifted_edge" "shifted_edge" (defArgs s_shifted_edge) (defBody s_shifted_edge) (defScope s_shifted_edge) .none kV_shifted_edge dc_shifted_edge pm_shifted_edge an_shifted_edge cd_shifted_edge ct_shifted_edge), sl_shifted_edge⟩)
    (c_shifted_edge : PySem.W.codeIn K cd_shifted_edge "shifted_edge" = true)
    (k_shifted_edge : PySem.W.keepIn K (.ref f_shifted_edge) = true)
    (a_shifted : PySem.W.nsIn K mainGlobals "shifted" = some (some (.ref f_shifted)))
    (l_shifted : K.lookup f_shifted = some ⟨oc_shifted, od_shifted, .func (PySem.W.fnOf "shifted" "shifted" (defArgs s_shifted) (defBody s_shifted) (defScope s_shifted) .none kV_shifted dc_shifted pm_shifted an_shifted cd_shifted ct_shifted), sl_shifted⟩)
    (c_shifted : PySem.W.codeIn K cd_shifted "shifted" = true)
    (k_shifted : PySem.W.keepIn K (.ref f_shifted) = true)
    (a_Span_add : PySem.W.findIn K (.ref A_Span) "__add__" = some (some (.ref f_Span_add)))
    (l_Span_add : K.lookup f_Span_add = some ⟨oc_Span_add, od_Span_add, .func (PySem.W.fnOf "__add__" "Span.__add__" (defArgs s_Span_add) (defBody s_Span_add) (defScope s_Span_add) .none kV_Span_add dc_Span_add pm_Span_add an_Span_add cd_Span_add ct_Span_add), sl_Span_add⟩)
    (c_Span_add : PySem.W.codeIn K cd_Span_add "Span.__add__" = true)
    (k_Span_add : PySem.W.keepIn K (.ref f_Span_add) = true)
    (i_Span_add : PySem.W.isFn K (.ref f_Span_add) = true)
    (a_Span_radd : PySem.W.findIn K (.ref A_Span) "__radd__" = some (some (.ref f_Span_radd)))
    (l_Span_radd : K.lookup f_Span_radd = some ⟨oc_Span_radd, od_Span_radd, .func (PySem.W.fnOf "__radd__" "Span.__radd__" (defArgs s_Span_radd) (defBody s_Span_radd) (defScope s_Span_radd) .none kV_Span_radd dc_Span_radd pm_Span_radd an_Span_radd cd_Span_radd ct_Span_radd), sl_Span_radd⟩)
    (c_Span_radd : PySem.W.codeIn K cd_Span_radd "Span.__radd__" = true)
    (k_Span_radd : PySem.W.keepIn K (.ref f_Span_radd) = true)
    (i_Span_radd : PySem.W.isFn K (.ref f_Span_radd) = true)
    (a_Span_sub : PySem.W.findIn K (.ref A_Span) "__sub__" = some (some (.ref f_Span_sub)))
    (l_Span_sub : K.lookup f_Span_sub = some ⟨oc_Span_sub, od_Span_sub, .func (PySem.W.fnOf "__sub__" "Span.__sub__" (defArgs s_Span_sub) (defBody s_Span_sub) (defScope s_Span_sub) .none kV_Span_sub dc_Span_sub pm_Span_sub an_Span_sub cd_Span_sub ct_Span_sub), sl_Span_sub⟩)
    (c_Span_sub : PySem.W.codeIn K cd_Span_sub "Span.__sub__" = true)
    (k_Span_sub : PySem.W.keepIn K (.ref f_Span_sub) = true)
    (i_Span_sub : PySem.W.isFn K (.ref f_Span_sub) = true)
    (a_l_shifted : PySem.W.nsIn K mainGlobals "_law_shifted" = some (some (.ref f_l_shifted)))
    (l_l_shifted : K.lookup f_l_shifted = some ⟨oc_l_shifted, od_l_shifted, .func (PySem.W.fnOf "_law_shifted" "_law_shifted" (defArgs s_l_shifted) (defBody s_l_shifted) (defScope s_l_shifted) .none kV_l_shifted dc_l_shifted pm_l_shifted an_l_shifted cd_l_shifted ct_l_shifted), sl_l_shifted⟩)
    (c_l_shifted : PySem.W.codeIn K cd_l_shifted "_law_shifted" = true)
    (k_l_shifted : PySem.W.keepIn K (.ref f_l_shifted) = true)
    (a_Span_eq : PySem.W.findIn K (.ref A_Span) "__eq__" = some (some (.ref f_Span_eq)))
    (l_Span_eq : K.lookup f_Span_eq = some ⟨oc_Span_eq, od_Span_eq, .func (PySem.W.fnOf "__eq__" "Span.__eq__" (defArgs s_Span_eq) (defBody s_Span_eq) (defScope s_Span_eq) .none kV_Span_eq dc_Span_eq pm_Span_eq an_Span_eq cd_Span_eq ct_Span_eq), sl_Span_eq⟩)
    (c_Span_eq : PySem.W.codeIn K cd_Span_eq "Span.__eq__" = true)
    (k_Span_eq : PySem.W.keepIn K (.ref f_Span_eq) = true)
    (i_Span_eq : PySem.W.isFn K (.ref f_Span_eq) = true)
    (a_is_moment : PySem.W.nsIn K mainGlobals "is_moment" = some (some (.ref f_is_moment)))
    (l_is_moment : K.lookup f_is_moment = some ⟨oc_is_moment, od_is_moment, .func (PySem.W.fnOf "is_moment" "is_moment" (defArgs s_is_moment) (defBody s_is_moment) (defScope s_is_moment) .none kV_is_moment dc_is_moment pm_is_moment an_is_moment cd_is_moment ct_is_moment), sl_is_moment⟩)
    (c_is_moment : PySem.W.codeIn K cd_is_moment "is_moment" = true)
    (k_is_moment : PySem.W.keepIn K (.ref f_is_moment) = true)
    (a_Span_contains : PySem.W.findIn K (.ref A_Span) "__contains__" = some (some (.ref f_Span_contains)))
    (l_Span_contains : K.lookup f_Span_contains = some ⟨oc_Span_contains, od_Span_contains, .func (PySem.W.fnOf "__contains__" "Span.__contains__" (defArgs s_Span_contains) (defBody s_Span_contains) (defScope s_Span_contains) .none kV_Span_contains dc_Span_contains pm_Span_contains an_Span_contains cd_Span_contains ct_Span_contains), sl_Span_contains⟩)
    (c_Span_contains : PySem.W.codeIn K cd_Span_contains "Span.__contains__" = true)
    (k_Span_contains : PySem.W.keepIn K (.ref f_Span_contains) = true)
    (i_Span_contains : PySem.W.isFn K (.ref f_Span_contains) = true)
    (a_law : PySem.W.nsIn K mainGlobals "law" = some (some (.ref f_law)))
    (l_law : K.lookup f_law = some ⟨oc_law, od_law, .func (PySem.W.fnOf "law" "law" (defArgs s_law) (defBody s_law) (defScope s_law) .none kV_law dc_law pm_law an_law cd_law ct_law), sl_law⟩)
    (c_law : PySem.W.codeIn K cd_law "law" = true)
    (k_law : PySem.W.keepIn K (.ref f_law) = true)
    (fat_Span___radd__ : PySem.W.findIn K (.ref A_Span) "__radd__" = some (some (.ref fa_Span___radd__)))
    (nix_Span : PySem.W.subIn K (.ref A_Span) (.type "int") = some false)
    (mro_Span : PySem.W.clsIn K A_Span = some ⟨qa_Span, qc_Span, [.ref A_Span, .type "object"], qe_Span, qb_Span, qf_Span, qi_Span, qd_Span, qg_Span, qj_Span, qh_Span⟩)
    (fat_Span___add__ : PySem.W.findIn K (.ref A_Span) "__add__" = some (some (.ref fa_Span___add__)))
    (fat_Span___rsub__ : PySem.W.findIn K (.ref A_Span) "__rsub__" = some none)
    (nfx_Span_Span : PySem.W.notFirst K A_Span (.ref A_Span) = true)
    : ∃ fd : FuncData, (∀ (s : Shared) (v : Value), BindsTo s fd ⟨[v], []⟩ [("_law_script", v)]) ∧ ∀ bh : Heap, K.In bh → bh.Ns mainGlobals mg → FnG l.prog w K mg bh 12 fa fd ["_law_script"] (sp_law K) := by
  have e := hfa.symm.trans (PySem.W.mg_of X G a_law)
  cases e
  have B : Blt mg := ⟨PySem.W.mg_none_of X G z_OverflowError, PySem.W.mg_none_of X G z_abs, PySem.W.mg_none_of X G z_bool, PySem.W.mg_none_of X G z_int, PySem.W.mg_none_of X G z_isinstance, PySem.W.mg_none_of X G z_len, PySem.W.mg_none_of X G z_max, PySem.W.mg_none_of X G z_min, PySem.W.mg_none_of X G z_range, PySem.W.mg_none_of X G z_repr, PySem.W.mg_none_of X G z_str, PySem.W.mg_none_of X G z_tuple⟩
  have T : Txt K mg := ⟨⟨t_FIRST, PySem.W.mg_of X G c_FIRST⟩, ⟨t_LAST, PySem.W.mg_of X G c_LAST⟩, ⟨t_FAR, PySem.W.mg_of X G c_FAR⟩⟩
  obtain ⟨cm, hc0, hc1, hc2, hc3⟩ : ∃ cm : Str → Addr, cm "Span" = A_Span ∧ cm "BadEdge" = C_BadEdge ∧ cm "BadSpan" = C_BadSpan ∧ cm "TooFar" = C_TooFar := ⟨fun s => if s = "Span" then A_Span else if s = "BadEdge" then C_BadEdge else if s = "BadSpan" then C_BadSpan else C_TooFar, if_pos rfl, (if_neg (by decide +kernel)).trans (if_pos rfl), (if_neg (by decide +kernel)).trans ((if_neg (by decide +kernel)).trans (if_pos rfl)), (if_neg (by decide +kernel)).trans ((if_neg (by decide +kernel)).trans ((if_neg (by decide +kernel)).trans (rfl)))⟩
  subst hc0
  subst hc1
  subst hc2
  subst hc3
  have EF_BadEdge : ErrG K (cm "BadEdge") "edge" := ⟨⟨"ValueError", "ValueError.__new__", "ValueError.__init__", _, PySem.F.excBase_ValueError, PySem.F.store_ValueError.passes, by decide +kernel, nm_BadEdge, qn_BadEdge, NS_BadEdge, bs_BadEdge, sn_BadEdge, sub_BadEdge, ab_BadEdge, col_BadEdge, dd_BadEdge, m0_BadEdge, m1_BadEdge, m2_BadEdge, m3_BadEdge, m5_BadEdge, ex_BadEdge⟩, esa_BadEdge, ega_BadEdge, egg_BadEdge, enf_BadEdge, ekC_BadEdge, eeC_BadEdge, etC_BadEdge, ehC_BadEdge, eiC_BadEdge, esC_BadEdge⟩
  have FI_BadEdge := fun_mk (st := inClass (topS 2) 0) eli_BadEdge eci_BadEdge eki_BadEdge
  have bI_BadEdge := FI_BadEdge.binds (ps := ["self", "edge"]) fun _ _ _ _ _ _ us hl => match us, hl with | [_, _], _ => rfl
  have EF_BadSpan : ErrG K (cm "BadSpan") "span" := ⟨⟨"ValueError", "ValueError.__new__", "ValueError.__init__", _, PySem.F.excBase_ValueError, PySem.F.store_ValueError.passes, by decide +kernel, nm_BadSpan, qn_BadSpan, NS_BadSpan, bs_BadSpan, sn_BadSpan, sub_BadSpan, ab_BadSpan, col_BadSpan, dd_BadSpan, m0_BadSpan, m1_BadSpan, m2_BadSpan, m3_BadSpan, m5_BadSpan, ex_BadSpan⟩, esa_BadSpan, ega_BadSpan, egg_BadSpan, enf_BadSpan, ekC_BadSpan, eeC_BadSpan, etC_BadSpan, ehC_BadSpan, eiC_BadSpan, esC_BadSpan⟩
  have FI_BadSpan := fun_mk (st := inClass (topS 3) 0) eli_BadSpan eci_BadSpan eki_BadSpan
  have bI_BadSpan := FI_BadSpan.binds (ps := ["self", "span"]) fun _ _ _ _ _ _ us hl => match us, hl with | [_, _], _ => rfl
  have EF_TooFar : ErrG K (cm "TooFar") "edge" := ⟨⟨"OverflowError", "OverflowError.__new__", "OverflowError.__init__", _, PySem.F.excBase_OverflowError, PySem.F.store_OverflowError.passes, by decide +kernel, nm_TooFar, qn_TooFar, NS_TooFar, bs_TooFar, sn_TooFar, sub_TooFar, ab_TooFar, col_TooFar, dd_TooFar, m0_TooFar, m1_TooFar, m2_TooFar, m3_TooFar, m5_TooFar, ex_TooFar⟩, esa_TooFar, ega_TooFar, egg_TooFar, enf_TooFar, ekC_TooFar, eeC_TooFar, etC_TooFar, ehC_TooFar, eiC_TooFar, esC_TooFar⟩
  have FI_TooFar := fun_mk (st := inClass (topS 4) 0) eli_TooFar eci_TooFar eki_TooFar
  have bI_TooFar := FI_TooFar.binds (ps := ["self", "edge"]) fun _ _ _ _ _ _ us hl => match us, hl with | [_, _], _ => rfl
  have IT_Span : InsTy (Gx.mk K cm none) "Span" := ⟨⟨pg_Span, hd_Span, po_Span, sa_Span⟩, ha_Span, ic_n, ic_t, hm_Span⟩
  have KI : Kits K mg cm := ⟨⟨bi_of (by decide +kernel), ow_of (List.forall_mem_cons.mpr ⟨⟨IT_Span, kit_bin (by decide +kernel) si_Span_int⟩, fun _ z => absurd z List.not_mem_nil⟩)⟩, ⟨bi_of (by decide +kernel), ow_of (List.forall_mem_cons.mpr ⟨⟨IT_Span, kit_bin (by decide +kernel) si_Span_bool⟩, fun _ z => absurd z List.not_mem_nil⟩)⟩, ⟨bi_of (by decide +kernel), ow_of (List.forall_mem_cons.mpr ⟨⟨IT_Span, kit_bin (by decide +kernel) si_Span_tuple⟩, fun _ z => absurd z List.not_mem_nil⟩)⟩, ⟨ty_of (List.forall_mem_cons.mpr ⟨kit_tyOwn (by decide +kernel) is_Span ty_Span, List.forall_mem_cons.mpr ⟨kit_tyOwn (by decide +kernel) is_Span ty_Span, fun _ z => absurd z List.not_mem_nil⟩⟩), ow_of (List.forall_mem_cons.mpr ⟨⟨IT_Span, kit_self _⟩, fun _ z => absurd z List.not_mem_nil⟩)⟩, PySem.W.mg_of X G at_Span, IT_Span.cl, List.forall_mem_cons.mpr ⟨⟨IT_Span.cl, no_Span_begin⟩, fun _ z => absurd z List.not_mem_nil⟩, List.forall_mem_cons.mpr ⟨⟨IT_Span.cl, no_Span_end⟩, fun _ z => absurd z List.not_mem_nil⟩, ex_of (List.forall_mem_cons.mpr ⟨EF_TooFar.exm exs_BadEdge_TooFar, List.forall_mem_cons.mpr ⟨EF_TooFar.exm exs_BadSpan_TooFar, List.forall_mem_cons.mpr ⟨EF_TooFar.exm esC_TooFar, fun _ z => absurd z List.not_mem_nil⟩⟩⟩), xi_of (List.forall_mem_cons.mpr ⟨⟨EF_BadEdge.excC xha_BadEdge ic_n ic_t xhm_BadEdge, kit_bin (by decide +kernel) xis_BadEdge_OverflowError⟩, List.forall_mem_cons.mpr ⟨⟨EF_BadSpan.excC xha_BadSpan ic_n ic_t xhm_BadSpan, kit_bin (by decide +kernel) xis_BadSpan_OverflowError⟩, List.forall_mem_cons.mpr ⟨⟨EF_TooFar.excC xha_TooFar ic_n ic_t xhm_TooFar, kit_bin (by decide +kernel) xis_TooFar_OverflowError⟩, fun _ z => absurd z List.not_mem_nil⟩⟩⟩), se_Span, ⟨_, fat_Span___radd__, .inr ⟨_, rfl⟩⟩, nix_Span, ⟨⟨_, mro_Span, rfl⟩⟩, ⟨_, fat_Span___add__, .inr ⟨_, rfl⟩⟩, ⟨_, fat_Span___rsub__, .inl rfl⟩, ⟨List.forall_mem_cons.mpr ⟨⟨IT_Span, nfx_Span_Span⟩, fun _ z => absurd z List.not_mem_nil⟩⟩, trivial⟩
  have F_l_bag := fun_mk (st := s_l_bag) l_l_bag c_l_bag k_l_bag
  have b_l_bag := F_l_bag.binds (ps := ["_law_script", "_law_at"]) fun _ _ _ _ _ _ us hl => match us, hl with | [_, _], _ => rfl
  have F_l_take := fun_mk (st := s_l_take) l_l_take c_l_take k_l_take
  have b_l_take := F_l_take.binds (ps := ["_law_bag_here", "_law_many"]) fun _ _ _ _ _ _ us hl => match us, hl with | [_, _], _ => rfl
  have F_l_edge := fun_mk (st := s_l_edge) l_l_edge c_l_edge k_l_edge
  have b_l_edge := F_l_edge.binds (ps := ["_law_bag_here"]) fun _ _ _ _ _ _ us hl => match us, hl with | [_], _ => rfl
  have F_l_stretch := fun_mk (st := s_l_stretch) l_l_stretch c_l_stretch k_l_stretch
  have b_l_stretch := F_l_stretch.binds (ps := ["_law_bag_here"]) fun _ _ _ _ _ _ us hl => match us, hl with | [_], _ => rfl
  have F_is_number := fun_mk (st := s_is_number) l_is_number c_is_number k_is_number
  have b_is_number := F_is_number.binds (ps := ["value"]) fun _ _ _ _ _ _ us hl => match us, hl with | [_], _ => rfl
  have F_is_edge := fun_mk (st := s_is_edge) l_is_edge c_is_edge k_is_edge
  have b_is_edge := F_is_edge.binds (ps := ["value"]) fun _ _ _ _ _ _ us hl => match us, hl with | [_], _ => rfl
  have F_is_pair := fun_mk (st := s_is_pair) l_is_pair c_is_pair k_is_pair
  have b_is_pair := F_is_pair.binds (ps := ["value"]) fun _ _ _ _ _ _ us hl => match us, hl with | [_], _ => rfl
  have F_is_stretch := fun_mk (st := s_is_stretch) l_is_stretch c_is_stretch k_is_stretch
  have b_is_stretch := F_is_stretch.binds (ps := ["value"]) fun _ _ _ _ _ _ us hl => match us, hl with | [_], _ => rfl
  have F_Span_init : FunD K "__init__" "Span.__init__" (defArgs s_Span_init) (defBody s_Span_init) (defScope s_Span_init) [] [] f_Span_init _ := ⟨⟨oc_Span_init, od_Span_init, .none, kV_Span_init, dc_Span_init, pm_Span_init, an_Span_init, cd_Span_init, ct_Span_init, sl_Span_init, rfl, l_Span_init, c_Span_init, .inl ⟨rfl, rfl⟩, .inl rfl⟩, k_Span_init⟩
  have W_Span_init_2 : Fill K _ ["self", "begin", "end"] [] := ⟨[], .nil, FunD.bindsN (ps := ["self", "begin", "end"]) F_Span_init fun _ _ _ _ _ _ us hl => match us, hl with | [_, _, _], _ => rfl⟩
  have F_l_shift := fun_mk (st := s_l_shift) l_l_shift c_l_shift k_l_shift
  have b_l_shift := F_l_shift.binds (ps := ["_law_bag_here", "_law_pair"]) fun _ _ _ _ _ _ us hl => match us, hl with | [_, _], _ => rfl
  have F_l_due := fun_mk (st := s_l_due) l_l_due c_l_due k_l_due
  have b_l_due := F_l_due.binds (ps := ["_law_pair", "_law_k"]) fun _ _ _ _ _ _ us hl => match us, hl with | [_, _], _ => rfl
  have F_Span_pair := fun_mk (st := s_Span_pair) l_Span_pair c_Span_pair k_Span_pair
  have b_Span_pair := F_Span_pair.binds (ps := ["self"]) fun _ _ _ _ _ _ us hl => match us, hl with | [_], _ => rfl
  have F_shifted_edge := fun_mk (st := s_shifted_edge) l_shifted_edge c_shifted_edge k_shifted_edge
  have b_shifted_edge := F_shifted_edge.binds (ps := ["edge", "k"]) fun _ _ _ _ _ _ us hl => match us, hl with | [_, _], _ => rfl
  have F_shifted := fun_mk (st := s_shifted) l_shifted c_shifted k_shifted
  have b_shifted := F_shifted.binds (ps := ["pair", "k"]) fun _ _ _ _ _ _ us hl => match us, hl with | [_, _], _ => rfl
  have F_Span_add := fun_mk (st := s_Span_add) l_Span_add c_Span_add k_Span_add
  have b_Span_add := F_Span_add.binds (ps := ["self", "other"]) fun _ _ _ _ _ _ us hl => match us, hl with | [_, _], _ => rfl
  have F_Span_radd := fun_mk (st := s_Span_radd) l_Span_radd c_Span_radd k_Span_radd
  have b_Span_radd := F_Span_radd.binds (ps := ["self", "other"]) fun _ _ _ _ _ _ us hl => match us, hl with | [_, _], _ => rfl
  have F_Span_sub := fun_mk (st := s_Span_sub) l_Span_sub c_Span_sub k_Span_sub
  have b_Span_sub := F_Span_sub.binds (ps := ["self", "other"]) fun _ _ _ _ _ _ us hl => match us, hl with | [_, _], _ => rfl
  have F_l_shifted := fun_mk (st := s_l_shifted) l_l_shifted c_l_shifted k_l_shifted
  have b_l_shifted := F_l_shifted.binds (ps := ["_law_span", "_law_k", "_law_way"]) fun _ _ _ _ _ _ us hl => match us, hl with | [_, _, _], _ => rfl
  have F_Span_eq := fun_mk (st := s_Span_eq) l_Span_eq c_Span_eq k_Span_eq
  have b_Span_eq := F_Span_eq.binds (ps := ["self", "other"]) fun _ _ _ _ _ _ us hl => match us, hl with | [_, _], _ => rfl
  have F_is_moment := fun_mk (st := s_is_moment) l_is_moment c_is_moment k_is_moment
  have b_is_moment := F_is_moment.binds (ps := ["value"]) fun _ _ _ _ _ _ us hl => match us, hl with | [_], _ => rfl
  have F_Span_contains := fun_mk (st := s_Span_contains) l_Span_contains c_Span_contains k_Span_contains
  have b_Span_contains := F_Span_contains.binds (ps := ["self", "x"]) fun _ _ _ _ _ _ us hl => match us, hl with | [_, _], _ => rfl
  have F_law := fun_mk (st := s_law) l_law c_law k_law
  refine ⟨PySem.W.fnOf "law" "law" (defArgs s_law) (defBody s_law) (defScope s_law) .none kV_law dc_law pm_law an_law cd_law ct_law, fun s v => .of_eq rfl, fun bh _ _ => ?_⟩
  have E_BadEdge : ErrB l.prog w K mg bh "BadEdge" "edge" (cm "BadEdge") fI_BadEdge _ := EF_BadEdge.errB (PySem.W.mg_of X G eg_BadEdge) eai_BadEdge eti_BadEdge FI_BadEdge bI_BadEdge ⟨rfl, rfl, rfl, by decide +kernel, rfl, by decide +kernel, by decide +kernel⟩ (by rfl) (by decide +kernel) (by decide +kernel) (by rfl) (by rfl)
  have E_BadSpan : ErrB l.prog w K mg bh "BadSpan" "span" (cm "BadSpan") fI_BadSpan _ := EF_BadSpan.errB (PySem.W.mg_of X G eg_BadSpan) eai_BadSpan eti_BadSpan FI_BadSpan bI_BadSpan ⟨rfl, rfl, rfl, by decide +kernel, rfl, by decide +kernel, by decide +kernel⟩ (by rfl) (by decide +kernel) (by decide +kernel) (by rfl) (by rfl)
  have E_TooFar : ErrB l.prog w K mg bh "TooFar" "edge" (cm "TooFar") fI_TooFar _ := EF_TooFar.errB (PySem.W.mg_of X G eg_TooFar) eai_TooFar eti_TooFar FI_TooFar bI_TooFar ⟨rfl, rfl, rfl, by decide +kernel, rfl, by decide +kernel, by decide +kernel⟩ (by rfl) (by decide +kernel) (by decide +kernel) (by rfl) (by rfl)
  have R_l_bag : Rdy l.prog w K mg bh "_law_bag" 1 ["_law_script", "_law_at"] (spF (Gx.mk K cm none) 2 fn_l_bag) f_l_bag _ := ⟨ok_l_bag B T KI F_l_bag, PySem.W.mg_of X G a_l_bag, k_l_bag, b_l_bag⟩
  have R_l_take : Rdy l.prog w K mg bh "_law_take" 1 ["_law_bag_here", "_law_many"] (spD (Gx.mk K cm none) 2 fn_l_take) f_l_take _ := ⟨ok_l_take B T KI F_l_take, PySem.W.mg_of X G a_l_take, k_l_take, b_l_take⟩
  have R_l_edge : Rdy l.prog w K mg bh "_law_edge" 2 ["_law_bag_here"] (spD (Gx.mk K cm none) 1 fn_l_edge) f_l_edge _ := ⟨ok_l_edge B T KI R_l_take F_l_edge, PySem.W.mg_of X G a_l_edge, k_l_edge, b_l_edge⟩
  have R_l_stretch : Rdy l.prog w K mg bh "_law_stretch" 3 ["_law_bag_here"] (spD (Gx.mk K cm none) 1 fn_l_stretch) f_l_stretch _ := ⟨ok_l_stretch B T KI R_l_take R_l_edge F_l_stretch, PySem.W.mg_of X G a_l_stretch, k_l_stretch, b_l_stretch⟩
  have R_is_number : Rdy l.prog w K mg bh "is_number" 1 ["value"] (spD (Gx.mk K cm none) 1 fn_is_number) f_is_number _ := ⟨ok_is_number B T KI F_is_number, PySem.W.mg_of X G a_is_number, k_is_number, b_is_number⟩
  have R_is_edge : Rdy l.prog w K mg bh "is_edge" 2 ["value"] (spD (Gx.mk K cm none) 1 fn_is_edge) f_is_edge _ := ⟨ok_is_edge B T KI R_is_number F_is_edge, PySem.W.mg_of X G a_is_edge, k_is_edge, b_is_edge⟩
  have R_is_pair : Rdy l.prog w K mg bh "is_pair" 3 ["value"] (spD (Gx.mk K cm none) 1 fn_is_pair) f_is_pair _ := ⟨ok_is_pair B T KI R_is_edge F_is_pair, PySem.W.mg_of X G a_is_pair, k_is_pair, b_is_pair⟩
  have R_is_stretch : Rdy l.prog w K mg bh "is_stretch" 4 ["value"] (spD (Gx.mk K cm none) 1 fn_is_stretch) f_is_stretch _ := ⟨ok_is_stretch B T KI R_is_pair F_is_stretch, PySem.W.mg_of X G a_is_stretch, k_is_stretch, b_is_stretch⟩
  have R_Span_init : RdyMkX l.prog w K mg bh "Span" (cm "Span") 5 ["self", "begin", "end"] (spD (Gx.mk K cm none) 3 fn_Span_init) f_Span_init _ := ⟨ok_Span_init B T KI E_BadEdge E_BadSpan R_is_edge R_is_stretch F_Span_init, ⟨mk_Span, a_Span_init, i_Span_init, kc_Span⟩, PySem.W.mg_of X G at_Span⟩
  have R_l_shift : Rdy l.prog w K mg bh "_law_shift" 2 ["_law_bag_here", "_law_pair"] (spD (Gx.mk K cm none) 2 fn_l_shift) f_l_shift _ := ⟨ok_l_shift B T KI R_l_take F_l_shift, PySem.W.mg_of X G a_l_shift, k_l_shift, b_l_shift⟩
  have R_l_due : RdyG l.prog w K mg bh "_law_due" 1 ["_law_pair", "_law_k"] (spD (Gx.mk K cm none) 2 fn_l_due) f_l_due _ := ⟨ok_l_due B T KI F_l_due, PySem.W.mg_of X G a_l_due, k_l_due, b_l_due⟩
  have R_Span_pair : RdyPr l.prog w K mg bh (cm "Span") "pair" 1 (spD (Gx.mk K cm none) 1 fn_Span_pair) P_Span_pair f_Span_pair _ := ⟨ok_Span_pair B T KI F_Span_pair, ⟨a_Span_pair, g_Span_pair, t_Span_pair, rest_Span_pair, r_Span_pair⟩, b_Span_pair⟩
  have R_shifted_edge : RdyX l.prog w K mg bh "shifted_edge" 3 ["edge", "k"] (spD (Gx.mk K cm none) 2 fn_shifted_edge) f_shifted_edge _ := ⟨ok_shifted_edge B T KI E_TooFar F_shifted_edge, PySem.W.mg_of X G a_shifted_edge, k_shifted_edge, b_shifted_edge⟩
  have R_shifted : RdyX l.prog w K mg bh "shifted" 4 ["pair", "k"] (spD (Gx.mk K cm none) 2 fn_shifted) f_shifted _ := ⟨ok_shifted B T KI R_shifted_edge F_shifted, PySem.W.mg_of X G a_shifted, k_shifted, b_shifted⟩
  have R_Span_add : RdyOpX l.prog w K mg bh (cm "Span") "__add__" 7 (spD (Gx.mk K cm none) 2 fn_Span_add) f_Span_add := ⟨FnR.imp (FnOk.raw (ok_Span_add B T KI R_is_number R_Span_init R_Span_pair R_shifted W_Span_init_2 F_Span_add) b_Span_add .nil) (fun vs H Q E h => by rw [List.append_nil]; exact h), a_Span_add, i_Span_add⟩
  have R_Span_radd : RdyOpX l.prog w K mg bh (cm "Span") "__radd__" 9 (spD (Gx.mk K cm none) 2 fn_Span_radd) f_Span_radd := ⟨FnR.imp (FnOk.raw (ok_Span_radd B T KI R_is_number R_Span_add F_Span_radd) b_Span_radd .nil) (fun vs H Q E h => by rw [List.append_nil]; exact h), a_Span_radd, i_Span_radd⟩
  have R_Span_sub : RdyOpX l.prog w K mg bh (cm "Span") "__sub__" 9 (spD (Gx.mk K cm none) 2 fn_Span_sub) f_Span_sub := ⟨FnR.imp (FnOk.raw (ok_Span_sub B T KI R_is_number R_Span_add F_Span_sub) b_Span_sub .nil) (fun vs H Q E h => by rw [List.append_nil]; exact h), a_Span_sub, i_Span_sub⟩
  have R_l_shifted : RdyG l.prog w K mg bh "_law_shifted" 11 ["_law_span", "_law_k", "_law_way"] (spD (Gx.mk K cm none) 3 fn_l_shifted) f_l_shifted _ := ⟨ok_l_shifted B T KI E_TooFar R_Span_pair R_Span_add R_Span_radd R_Span_sub F_l_shifted, PySem.W.mg_of X G a_l_shifted, k_l_shifted, b_l_shifted⟩
  have R_Span_eq : RdyOp l.prog w K mg bh (cm "Span") "__eq__" 1 (spD (Gx.mk K cm none) 2 fn_Span_eq) f_Span_eq := ⟨FnR.imp (FnOk.raw (ok_Span_eq B T KI F_Span_eq) b_Span_eq .nil) (fun vs H Q E h => by rw [List.append_nil]; exact h), a_Span_eq, i_Span_eq⟩
  have R_is_moment : Rdy l.prog w K mg bh "is_moment" 2 ["value"] (spD (Gx.mk K cm none) 1 fn_is_moment) f_is_moment _ := ⟨ok_is_moment B T KI R_is_number F_is_moment, PySem.W.mg_of X G a_is_moment, k_is_moment, b_is_moment⟩
  have R_Span_contains : RdyOp l.prog w K mg bh (cm "Span") "__contains__" 3 (spD (Gx.mk K cm none) 2 fn_Span_contains) f_Span_contains := ⟨FnR.imp (FnOk.raw (ok_Span_contains B T KI R_is_moment F_Span_contains) b_Span_contains .nil) (fun vs H Q E h => by rw [List.append_nil]; exact h), a_Span_contains, i_Span_contains⟩
  exact FnG.imp (ok_law B T KI R_l_bag R_l_take R_l_stretch R_Span_init R_l_shift R_l_due R_Span_add R_Span_sub R_l_shifted R_Span_eq R_Span_contains W_Span_init_2 F_law) (law_sp fun ns hn => law_run ns hn)
end
end Spk
open PySem PySem.W PyProof.Rows
set_option maxHeartbeats 0 in
theorem PySem.Challenge.cw_spanloops_k06_spans_shifted_holds : PySem.Challenge.rw_spanloops_k06_spans_shifted.Holds := by
  w_on; o_law; k_head; (case hw => w_witness2)
  k_fill
  refine Spk.walkG (l := PySem.Challenge.rw_spanloops_k06_spans_shifted) (n := 63) (k := 12) (x := "_law_script") (sp := fun w => Spk.sp_law _) rfl (by decide) rfl ⟨rfl, by decide, by decide⟩ (fun w h Y => PySem.W.kIn_of Y) ?F (fun _ _ a ns hl _ hS => ⟨a, ns, rfl, hS, hl, fun _ => rfl⟩)
  case F =>
    intro w mg fa h KX G hmg
    refine' Spk.all_mk KX G hmg ?z_OverflowError ?z_abs ?z_bool ?z_int ?z_isinstance ?z_len ?z_max ?z_min ?z_range ?z_repr ?z_str ?z_tuple ?c_FIRST ?c_LAST ?c_FAR ?eg_BadEdge ?ex_BadEdge ?esa_BadEdge ?ega_BadEdge ?egg_BadEdge ?enf_BadEdge ?ekC_BadEdge ?eeC_BadEdge ?etC_BadEdge ?ehC_BadEdge ?eiC_BadEdge ?esC_BadEdge ?eai_BadEdge ?eti_BadEdge ?eli_BadEdge ?eci_BadEdge ?eki_BadEdge ?eg_BadSpan ?ex_BadSpan ?esa_BadSpan ?ega_BadSpan ?egg_BadSpan ?enf_BadSpan ?ekC_BadSpan ?eeC_BadSpan ?etC_BadSpan ?ehC_BadSpan ?eiC_BadSpan ?esC_BadSpan ?eai_BadSpan ?eti_BadSpan ?eli_BadSpan ?eci_BadSpan ?eki_BadSpan ?eg_TooFar ?ex_TooFar ?esa_TooFar ?ega_TooFar ?egg_TooFar ?enf_TooFar ?ekC_TooFar ?eeC_TooFar ?etC_TooFar ?ehC_TooFar ?eiC_TooFar ?esC_TooFar ?eai_TooFar ?eti_TooFar ?eli_TooFar ?eci_TooFar ?eki_TooFar ?exs_BadEdge_TooFar ?exs_BadSpan_TooFar ?xis_BadEdge_OverflowError ?xis_BadSpan_OverflowError ?xis_TooFar_OverflowError ?xha_BadEdge ?xhm_BadEdge ?xha_BadSpan ?xhm_BadSpan ?xha_TooFar ?xhm_TooFar ?at_Span ?pg_Span ?hd_Span ?po_Span ?sa_Span ?mk_Span ?kc_Span ?no_Span_begin ?no_Span_end ?ha_Span ?hm_Span ?rd_Span ?ga_Span ?is_Span ?ty_Span ?ss_Span ?se_Span ?si_Span_int ?si_Span_bool ?si_Span_tuple ?ic_n ?ic_t ?a_l_bag ?l_l_bag ?c_l_bag ?k_l_bag ?a_l_take ?l_l_take ?c_l_take ?k_l_take ?a_l_edge ?l_l_edge ?c_l_edge ?k_l_edge ?a_l_stretch ?l_l_stretch ?c_l_stretch ?k_l_stretch ?a_is_number ?l_is_number ?c_is_number ?k_is_number ?a_is_edge ?l_is_edge ?c_is_edge ?k_is_edge ?a_is_pair ?l_is_pair ?c_is_pair ?k_is_pair ?a_is_stretch ?l_is_stretch ?c_is_stretch ?k_is_stretch ?a_Span_init ?l_Span_init ?c_Span_init ?k_Span_init ?i_Span_init ?a_l_shift ?l_l_shift ?c_l_shift ?k_l_shift ?a_l_due ?l_l_due ?c_l_due ?k_l_due ?a_Span_pair ?g_Span_pair ?t_Span_pair ?r_Span_pair ?l_Span_pair ?c_Span_pair ?k_Span_pair ?a_shifted_edge ?l_shifted_edge ?c_shifted_edge ?k_shifted_edge ?a_shifted ?l_shifted ?c_shifted ?k_shifted ?a_Span_add ?l_Span_add ?c_Span_add ?k_Span_add ?i_Span_add ?a_Span_radd ?l_Span_radd ?c_Span_radd ?k_Span_radd ?i_Span_radd ?a_Span_sub ?l_Span_sub ?c_Span_sub ?k_Span_sub ?i_Span_sub ?a_l_shifted ?l_l_shifted ?c_l_shifted ?k_l_shifted ?a_Span_eq ?l_Span_eq ?c_Span_eq ?k_Span_eq ?i_Span_eq ?a_is_moment ?l_is_moment ?c_is_moment ?k_is_moment ?a_Span_contains ?l_Span_contains ?c_Span_contains ?k_Span_contains ?i_Span_contains ?a_law ?l_law ?c_law ?k_law ?fat_Span___radd__ ?nix_Span ?mro_Span ?fat_Span___add__ ?fat_Span___rsub__ ?nfx_Span_Span
    (case z_OverflowError => k_is)
    (case z_abs => k_is)
    (case z_bool => k_is)
    (case z_int => k_is)
    (case z_isinstance => k_is)
    (case z_len => k_is)
    (case z_max => k_is)
    (case z_min => k_is)
    (case z_range => k_is)
    (case z_repr => k_is)
    (case z_str => k_is)
    (case z_tuple => k_is)
    (case c_FIRST => k_is)
    (case c_LAST => k_is)
    (case c_FAR => k_is)
    (case eg_BadEdge => k_is)
    (case ex_BadEdge => k_is)
    (case esa_BadEdge => k_is)
    (case ega_BadEdge => k_is)
    (case egg_BadEdge => k_is)
    (case enf_BadEdge => k_is)
    (case ekC_BadEdge => k_is)
    (case eeC_BadEdge => k_is)
    (case etC_BadEdge => k_is)
    (case ehC_BadEdge => k_is)
    (case eiC_BadEdge => k_is)
    (case esC_BadEdge => k_is)
    (case eai_BadEdge => k_is)
    (case eti_BadEdge => k_is)
    (case eli_BadEdge => k_is)
    (case eci_BadEdge => k_is)
    (case eki_BadEdge => k_is)
    (case eg_BadSpan => k_is)
    (case ex_BadSpan => k_is)
    (case esa_BadSpan => k_is)
    (case ega_BadSpan => k_is)
    (case egg_BadSpan => k_is)
    (case enf_BadSpan => k_is)
    (case ekC_BadSpan => k_is)
    (case eeC_BadSpan => k_is)
    (case etC_BadSpan => k_is)
    (case ehC_BadSpan => k_is)
    (case eiC_BadSpan => k_is)
    (case esC_BadSpan => k_is)
    (case eai_BadSpan => k_is)
    (case eti_BadSpan => k_is)
    (case eli_BadSpan => k_is)
    (case eci_BadSpan => k_is)
    (case eki_BadSpan => k_is)
    (case eg_TooFar => k_is)
    (case ex_TooFar => k_is)
    (case esa_TooFar => k_is)
    (case ega_TooFar => k_is)
    (case egg_TooFar => k_is)
    (case enf_TooFar => k_is)
    (case ekC_TooFar => k_is)
    (case eeC_TooFar => k_is)
    (case etC_TooFar => k_is)
    (case ehC_TooFar => k_is)
    (case eiC_TooFar => k_is)
    (case esC_TooFar => k_is)
    (case eai_TooFar => k_is)
    (case eti_TooFar => k_is)
    (case eli_TooFar => k_is)
    (case eci_TooFar => k_is)
    (case eki_TooFar => k_is)
    (case exs_BadEdge_TooFar => k_is)
    (case exs_BadSpan_TooFar => k_is)
    (case xis_BadEdge_OverflowError => k_is)
    (case xis_BadSpan_OverflowError => k_is)
    (case xis_TooFar_OverflowError => k_is)
    (case xha_BadEdge => k_is)
    (case xhm_BadEdge => k_is)
    (case xha_BadSpan => k_is)
    (case xhm_BadSpan => k_is)
    (case xha_TooFar => k_is)
    (case xhm_TooFar => k_is)
    (case at_Span => k_is)
    (case pg_Span => k_is)
    (case hd_Span => k_is)
    (case po_Span => k_is)
    (case sa_Span => k_is)
    (case mk_Span => k_is)
    (case kc_Span => k_is)
    (case no_Span_begin => k_is)
    (case no_Span_end => k_is)
    (case ha_Span => k_is)
    (case hm_Span => k_is)
    (case rd_Span => k_is)
    (case ga_Span => k_is)
    (case is_Span => k_is)
    (case ty_Span => k_is)
    (case ss_Span => k_is)
    (case se_Span => k_is)
    (case si_Span_int => k_is)
    (case si_Span_bool => k_is)
    (case si_Span_tuple => k_is)
    (case ic_n => k_is)
    (case ic_t => k_is)
    (case a_l_bag => k_is)
    (case l_l_bag => k_is)
    (case c_l_bag => k_is)
    (case k_l_bag => k_is)
    (case a_l_take => k_is)
    (case l_l_take => k_is)
    (case c_l_take => k_is)
    (case k_l_take => k_is)
    (case a_l_edge => k_is)
    (case l_l_edge => k_is)
    (case c_l_edge => k_is)
    (case k_l_edge => k_is)
    (case a_l_stretch => k_is)
    (case l_l_stretch => k_is)
    (case c_l_stretch => k_is)
    (case k_l_stretch => k_is)
    (case a_is_number => k_is)
    (case l_is_number => k_is)
    (case c_is_number => k_is)
    (case k_is_number => k_is)
    (case a_is_edge => k_is)
    (case l_is_edge => k_is)
    (case c_is_edge => k_is)
    (case k_is_edge => k_is)
    (case a_is_pair => k_is)
    (case l_is_pair => k_is)
    (case c_is_pair => k_is)
    (case k_is_pair => k_is)
    (case a_is_stretch => k_is)
    (case l_is_stretch => k_is)
    (case c_is_stretch => k_is)
    (case k_is_stretch => k_is)
    (case a_Span_init => k_is)
    (case l_Span_init => k_is)
    (case c_Span_init => k_is)
    (case k_Span_init => k_is)
    (case i_Span_init => k_is)
    (case a_l_shift => k_is)
    (case l_l_shift => k_is)
    (case c_l_shift => k_is)
    (case k_l_shift => k_is)
    (case a_l_due => k_is)
    (case l_l_due => k_is)
    (case c_l_due => k_is)
    (case k_l_due => k_is)
    (case a_Span_pair => k_is)
    (case g_Span_pair => k_is)
    (case t_Span_pair => k_is)
    (case r_Span_pair => k_is)
    (case l_Span_pair => k_is)
    (case c_Span_pair => k_is)
    (case k_Span_pair => k_is)
    (case a_shifted_edge => k_is)
    (case l_shifted_edge => k_is)
    (case c_shifted_edge => k_is)
    (case k_shifted_edge => k_is)
    (case a_shifted => k_is)
    (case l_shifted => k_is)
    (case c_shifted => k_is)
    (case k_shifted => k_is)
    (case a_Span_add => k_is)
    (case l_Span_add => k_is)
    (case c_Span_add => k_is)
    (case k_Span_add => k_is)
    (case i_Span_add => k_is)
    (case a_Span_radd => k_is)
    (case l_Span_radd => k_is)
    (case c_Span_radd => k_is)
    (case k_Span_radd => k_is)
    (case i_Span_radd => k_is)
    (case a_Span_sub => k_is)
    (case l_Span_sub => k_is)
    (case c_Span_sub => k_is)
    (case k_Span_sub => k_is)
    (case i_Span_sub => k_is)
    (case a_l_shifted => k_is)
    (case l_l_shifted => k_is)
    (case c_l_shifted => k_is)
    (case k_l_shifted => k_is)
    (case a_Span_eq => k_is)
    (case l_Span_eq => k_is)
    (case c_Span_eq => k_is)
    (case k_Span_eq => k_is)
    (case i_Span_eq => k_is)
    (case a_is_moment => k_is)
    (case l_is_moment => k_is)
    (case c_is_moment => k_is)
    (case k_is_moment => k_is)
    (case a_Span_contains => k_is)
    (case l_Span_contains => k_is)
    (case c_Span_contains => k_is)
    (case k_Span_contains => k_is)
    (case i_Span_contains => k_is)
    (case a_law => k_is)
    (case l_law => k_is)
    (case c_law => k_is)
    (case k_law => k_is)
    (case fat_Span___radd__ => k_is)
    (case nix_Span => k_is)
    (case mro_Span => k_is)
    (case fat_Span___add__ => k_is)
    (case fat_Span___rsub__ => k_is)
    (case nfx_Span_Span => k_is)
